"""YARDS and other things for the tests, made and checked without the program."""

import contextlib

# The places that each WAY joins, as the document has them.
JOINED = {0: ((0, 1), (2, 3)), 1: ((0, 2), (1, 3)), 2: ((0, 3), (1, 2))}

HUGE = 10 ** 3999

TWO = ((0, 4), (1, 5), (2, 6), (3, 7))


def nest_of_itself():
    rows = []
    rows.append(rows)
    return rows


def anything():
    """Things of many kinds, none of them a YARD, an END, a number that is small, or a text."""
    return [
        None, True, False, -1, HUGE, -HUGE, (), [], {}, set(), frozenset(), b"", b"0a-0b 0c-0d",
        (None,), [None], (0,), (0, 1), [0, 1], ((),), [[[]]], ((0, 1),), {0: 1}, {(0, 1), (2, 3)},
        object(), int, len, range(4), iter(()), nest_of_itself(), ((True, False), (2, 3)),
        ([0, 1], [2, 3]), (((0, 1), (2, 3)),), (HUGE, HUGE), ((HUGE, 1), (2, 3)), Ellipsis,
    ]


def chain(many):
    """The YARD in which each crossing has two LINES to the one behind it."""
    lines = [(0, 1)]
    for crossing in range(many - 1):
        lines += [(4 * crossing + 2, 4 * crossing + 4), (4 * crossing + 3, 4 * crossing + 5)]
    return tuple(lines + [(4 * many - 2, 4 * many - 1)])


def pairings(ends):
    """All ways to part a list of ENDS into pairs, each a tuple of pairs, rising."""
    if not ends:
        yield ()
        return
    for at in range(1, len(ends)):
        for rest in pairings(ends[1:at] + ends[at + 1:]):
            yield ((ends[0], ends[at]),) + rest


def parts(ends, links):
    """ENDS parted by links, as lists."""
    part_of = {end: [end] for end in ends}
    for one, other in links:
        if part_of[one] is not part_of[other]:
            gone = part_of[other]
            part_of[one].extend(gone)
            for end in gone:
                part_of[end] = part_of[one]
    return [part for end, part in part_of.items() if part[0] == end]


def whole(lines):
    """Whether LINES hold together, asked END by END."""
    ends = range(2 * len(lines))
    same = [(end, end // 4 * 4) for end in ends]
    return len(parts(ends, list(lines) + same)) == 1


def all_yards(many):
    """All YARDS of so many crossings."""
    return [lines for lines in pairings(list(range(4 * many))) if whole(lines)]


def sewn(yard, crossing, way):
    """What is left of a YARD, as LINES that rise, or None where nothing is: by parts, not by going."""
    own = [4 * crossing + place for place in range(4)]
    joins = [(4 * crossing + one, 4 * crossing + other) for one, other in JOINED[way]]
    lines = []
    for part in parts(range(2 * len(yard)), list(yard) + joins):
        loose = sorted(end for end in part if end not in own)
        if not loose:
            return None
        lines.append(tuple(end - 4 if end > own[3] else end for end in loose))
    lines = tuple(sorted(lines))
    return lines if whole(lines) else None


@contextlib.contextmanager
def refused(test, kind, **fields):
    """What stands in it is refused by that very kind of error, with those fields."""
    try:
        yield
    except Exception as error:
        test.assertIs(type(error), kind)
        for name, worth in fields.items():
            told = getattr(error, name)
            test.assertEqual(told, worth)
            test.assertIs(type(told), type(worth))
    else:
        test.fail(f"{kind.__name__} was due")
