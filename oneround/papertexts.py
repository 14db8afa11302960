"""WORTHS and PAPERS as texts, written and read."""

from oneround.errors import BadText
from oneround.yards import MANY_WAYS, MOST_CROSSINGS, PLACES, mate, way_joining
from oneround.yardtexts import end_text, ends_by_text

MOST_PAPER_SIGNS = 20000

# How many figures a number in a text has at the most.
MOST_FIGURES = 31
FIGURES = "0123456789"

# What stands ahead of a SPLIT.
BY = "by"


def worths_text(worths):
    """The text of WORTHS: three numbers for each crossing."""
    return " ".join([",".join([str(worth) for worth in three]) for three in worths])


def paper_text(paper):
    """The text of a PAPER: a line for each of its rows."""
    return "\n".join([step_text(step) for step in paper])


def step_text(step):
    """The text of a row of a PAPER."""
    crossing, way, split = step
    words = [end_text(mate(PLACES * crossing, way))]
    if split is not None:
        words += [BY] + [end_text(end) for end in split]
    return " ".join(words)


def read_worths(text):
    """A triple of numbers for each crossing that a text tells; BadText of anything else."""
    need_signs(text)
    told = []
    for number, word in enumerate(text.split(" ")):
        three = three_of(word)
        if three is None or number == MOST_CROSSINGS:
            raise BadText(number)
        told.append(three)
    return tuple(told)


def need_signs(text):
    """Refuses what is no text, or has too many signs."""
    if not isinstance(text, str) or len(text) > MOST_PAPER_SIGNS:
        raise BadText(-1)


def three_of(word):
    """The three numbers that a word tells; None where it doesn't."""
    parts = word.split(",")
    if len(parts) != MANY_WAYS or not all([is_number_text(part) for part in parts]):
        return None
    return tuple([int(part) for part in parts])


def is_number_text(text):
    """Whether a text is that of a number."""
    figures = text[1:] if text[:1] == "-" else text
    if not 1 <= len(figures) <= MOST_FIGURES or not all([sign in FIGURES for sign in figures]):
        return False
    # Nothing stands ahead of other figures as 0, and 0 isn't below 0.
    return figures[0] != "0" or text == "0"


def read_paper(text):
    """The rows that a text tells; BadText of anything else."""
    need_signs(text)
    if text == "":
        return ()
    ends = ends_by_text()
    told = []
    for number, line in enumerate(text.split("\n")):
        step = step_of(line, ends)
        if step is None or number == MOST_CROSSINGS:
            raise BadText(number)
        told.append(step)
    return tuple(told)


def step_of(line, ends):
    """The row of a PAPER that a line tells, by the dict of ENDS; None of no row."""
    words = line.split(" ")
    end = ends.get(words[0])
    # No WAY joins a with itself.
    if end is None or end % PLACES == 0:
        return None
    crossing = end // PLACES
    way = way_joining(PLACES * crossing, end)
    if len(words) == 1:
        return (crossing, way, None)
    if words[1] != BY or len(words) == 2 or not all([word in ends for word in words[2:]]):
        return None
    return (crossing, way, tuple([ends[word] for word in words[2:]]))
