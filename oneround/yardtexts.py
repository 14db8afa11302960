"""YARDS, SETTINGS and DRAFTS as texts, written and read."""

from oneround.errors import BadText
from oneround.yards import MOST_CROSSINGS, PLACES, is_yard, need_yard

MOST_SIGNS = 2000

# The places of a crossing, in order.
LETTERS = "abcd"

# The sign of each WAY: the letter of the place with which a is joined.
WAY_SIGNS = {"b": 0, "c": 1, "d": 2}
OPEN_SIGN = "-"


def yard_text(yard):
    """The text of a YARD: its LINES, one blank between."""
    return " ".join([line_text(line) for line in need_yard(yard)])


def line_text(line):
    """The text of a LINE."""
    low, high = line
    return f"{end_text(low)}-{end_text(high)}"


def end_text(end):
    """The text of an END: its crossing's number and its place's letter."""
    return f"{end // PLACES}{LETTERS[end % PLACES]}"


def read_yard(text):
    """The YARD that a text tells; BadText of anything else."""
    if not isinstance(text, str) or len(text) > MOST_SIGNS:
        raise BadText(-1)
    # Only blanks part WORDS: split() alone would take line ends for blanks, too.
    words = [word for word in text.split(" ") if word != ""]
    ends = ends_by_text()
    taken = [False] * len(ends)
    lines = []
    for number, word in enumerate(words):
        line = line_of(word, ends)
        if line is None or taken[line[0]] or taken[line[1]]:
            raise BadText(number)
        taken[line[0]] = taken[line[1]] = True
        lines.append(line)
    yard = tuple(sorted(lines))
    if not is_yard(yard):
        raise BadText(len(words))
    return yard


def ends_by_text():
    """A dict from the text of each END that a YARD can have to the END."""
    return {end_text(end): end for end in range(PLACES * MOST_CROSSINGS)}


def line_of(word, ends):
    """The LINE that a WORD tells, its ENDS in any order, by the dict of ENDS; None of no LINE."""
    parts = word.split("-")
    if len(parts) != 2:
        return None
    one = ends.get(parts[0])
    other = ends.get(parts[1])
    if one is None or other is None or one == other:
        return None
    return (min(one, other), max(one, other))


def ways_text(ways):
    """The text of WAYS and None: a sign for each."""
    signs = {way: sign for sign, way in WAY_SIGNS.items()}
    signs[None] = OPEN_SIGN
    return "".join([signs[way] for way in ways])


def read_ways(text, *, is_draft=False):
    """The WAYS that a text tells, of a DRAFT also None; BadText of anything else."""
    if not isinstance(text, str) or len(text) > MOST_CROSSINGS:
        raise BadText(-1)
    ways_of = dict(WAY_SIGNS)
    if is_draft:
        ways_of[OPEN_SIGN] = None
    ways = []
    for number, sign in enumerate(text):
        if sign not in ways_of:
            raise BadText(number)
        ways.append(ways_of[sign])
    return tuple(ways)
