"""YARDS and other things for the tests, made and checked without the program."""

import contextlib
import inspect
import itertools
import random

# The places that each WAY joins, as the document has them.
JOINED = {0: ((0, 1), (2, 3)), 1: ((0, 2), (1, 3)), 2: ((0, 3), (1, 2))}

HUGE = 10 ** 3999

TWO = ((0, 4), (1, 5), (2, 6), (3, 7))


def nest_of_itself():
    rows = []
    rows.append(rows)
    return rows


def anything():
    """Things of many kinds, none of them a YARD, an END, a number that is small, or a text."""
    return [
        None, True, False, -1, HUGE, -HUGE, (), [], {}, set(), frozenset(), b"", b"0a-0b 0c-0d",
        (None,), [None], (0,), (0, 1), [0, 1], ((),), [[[]]], ((0, 1),), {0: 1}, {(0, 1), (2, 3)},
        object(), int, len, range(4), iter(()), nest_of_itself(), ((True, False), (2, 3)),
        ([0, 1], [2, 3]), (((0, 1), (2, 3)),), (HUGE, HUGE), ((HUGE, 1), (2, 3)), Ellipsis,
    ]


def chain(many):
    """The YARD in which each crossing has two LINES to the one behind it."""
    lines = [(0, 1)]
    for crossing in range(many - 1):
        lines += [(4 * crossing + 2, 4 * crossing + 4), (4 * crossing + 3, 4 * crossing + 5)]
    return tuple(lines + [(4 * many - 2, 4 * many - 1)])


def pairings(ends):
    """All ways to part a list of ENDS into pairs, each a tuple of pairs, rising."""
    if not ends:
        yield ()
        return
    for at in range(1, len(ends)):
        for rest in pairings(ends[1:at] + ends[at + 1:]):
            yield ((ends[0], ends[at]),) + rest


def parts(ends, links):
    """ENDS parted by links, as lists."""
    part_of = {end: [end] for end in ends}
    for one, other in links:
        if part_of[one] is not part_of[other]:
            gone = part_of[other]
            part_of[one].extend(gone)
            for end in gone:
                part_of[end] = part_of[one]
    return [part for end, part in part_of.items() if part[0] == end]


def whole(lines):
    """Whether LINES hold together, asked END by END."""
    ends = range(2 * len(lines))
    same = [(end, end // 4 * 4) for end in ends]
    return len(parts(ends, list(lines) + same)) == 1


def all_yards(many):
    """All YARDS of so many crossings."""
    return [lines for lines in pairings(list(range(4 * many))) if whole(lines)]


def sewn(yard, crossing, way):
    """What is left of a YARD, as LINES that rise, or None where nothing is: by parts, not by going."""
    own = [4 * crossing + place for place in range(4)]
    joins = [(4 * crossing + one, 4 * crossing + other) for one, other in JOINED[way]]
    lines = []
    for part in parts(range(2 * len(yard)), list(yard) + joins):
        loose = sorted(end for end in part if end not in own)
        if not loose:
            return None
        lines.append(tuple(end - 4 if end > own[3] else end for end in loose))
    lines = tuple(sorted(lines))
    return lines if whole(lines) else None


def loose_yard(many, rng):
    """A YARD of so many crossings, its ENDS paired as the dice fall."""
    while True:
        ends = list(range(4 * many))
        rng.shuffle(ends)
        lines = tuple(sorted(tuple(sorted(ends[at:at + 2])) for at in range(0, 4 * many, 2)))
        if whole(lines):
            return lines


def grown_yard(many, rng):
    """A YARD of so many crossings, each but one PUT ACROSS: with many LINES that lead back and TWINS."""
    lines = [(0, 1), (2, 3)]
    for new in range(4, 4 * many, 4):
        one = lines.pop(rng.randrange(len(lines)))
        if rng.randrange(3) == 0:
            lines += [(one[0], new), (new + 1, new + 2), (one[1], new + 3)]
        else:
            other = lines.pop(rng.randrange(len(lines)))
            lines += [(one[0], new), (one[1], new + 2), (other[0], new + 1), (other[1], new + 3)]
    return tuple(sorted(lines))


def some_yards(seed, counts):
    """YARDS of so many crossings as the counts tell, a grown and a loose one of each."""
    rng = random.Random(seed)
    return [make(many, rng) for many in counts for make in (grown_yard, loose_yard)]


def some_ways(many, rng, kinds):
    """A tuple of so many of the kinds."""
    return tuple(rng.choice(kinds) for _ in range(many))


def all_ways(many, kinds=(0, 1, 2)):
    """All tuples of so many of the kinds."""
    return list(itertools.product(kinds, repeat=many))


def fillings(draft):
    """All SETTINGS that FILL a DRAFT, rising."""
    return list(itertools.product(*[(0, 1, 2) if way is None else (way,) for way in draft]))


def changed(ways, crossing, way):
    """WAYS with this one at the crossing."""
    return tuple(way if at == crossing else old for at, old in enumerate(ways))


def joins(ways):
    """All pairs of ENDS that are joined by WAYS, None of those that are OPEN."""
    return [
        (4 * crossing + one, 4 * crossing + other)
        for crossing, way in enumerate(ways) if way is not None
        for one, other in JOINED[way]
    ]


def tours(yard, ways):
    """The ENDS, parted by LINES and by what is joined; each part rising, all rising."""
    return sorted(sorted(part) for part in parts(range(2 * len(yard)), list(yard) + joins(ways)))


def holds(yard, draft):
    """The ENDS, parted by LINES, by what is joined and by OPEN crossings; each part rising, all rising."""
    four = [(4 * at, 4 * at + place) for at, way in enumerate(draft) if way is None for place in (1, 2, 3)]
    links = list(yard) + joins(draft) + four
    return sorted(sorted(part) for part in parts(range(2 * len(yard)), links))


def ways_place(thing, many, kinds=(0, 1, 2)):
    """The place at which a thing is no tuple of so many of the kinds; None of one."""
    if type(thing) is not tuple or len(thing) != many:
        return ()
    for at, way in enumerate(thing):
        if not any(type(way) is type(kind) and way == kind for kind in kinds):
            return (at,)
    return None


def check_order(test, call, good, bad):
    """Where all arguments from some place on are bad that of the first is told.

    bad has, for each argument, what is bad and the error that it brings.
    """
    for at, (_, error) in enumerate(bad):
        arguments = list(good[:at]) + [thing for thing, _ in bad[at:]]
        with refused(test, type(error), **vars(error)):
            call(*arguments)


def check_interface(test, module, rows):
    """Each name is a function of that very file, with those arguments."""
    for name, arguments in rows:
        call = getattr(module, name)
        test.assertEqual(str(inspect.signature(call)), f"({arguments})")
        test.assertEqual(call.__module__, module.__name__)


@contextlib.contextmanager
def refused(test, kind, **fields):
    """What stands in it is refused by that very kind of error, with those fields."""
    try:
        yield
    except Exception as error:
        test.assertIs(type(error), kind)
        for name, worth in fields.items():
            told = getattr(error, name)
            test.assertEqual(told, worth)
            test.assertIs(type(told), type(worth))
    else:
        test.fail(f"{kind.__name__} was due")
