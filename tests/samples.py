"""YARDS and other things for the tests, made and checked without the program."""

import contextlib
import functools
import inspect
import itertools
import random

from oneround.errors import BadDraft, BadSetting, BadWorths, BadYard, ManyRounds, NeverOne

# The places that each WAY joins, as the document has them.
JOINED = {0: ((0, 1), (2, 3)), 1: ((0, 2), (1, 3)), 2: ((0, 3), (1, 2))}

HUGE = 10 ** 3999

MOST = 10 ** 30

TWO = ((0, 4), (1, 5), (2, 6), (3, 7))

# What is refused, of each kind of thing that is handed in for TWO, with the error that it brings.
BAD_YARDS = [(thing, BadYard(place)) for thing, place in (
    (None, ()), ([], ()), (list(TWO), ()), ("0a-0b 0c-0d", ()), (((0, 1), (0, 1)), (1,)), (((0, 1), (2, 2)), (1,)),
    (((0, 1), (2, 3), (4, 5), (6, 7)), (4,)), (HUGE, ()),
)]
BAD_WORTHS = [(thing, BadWorths(place)) for thing, place in (
    (None, ()), ([(0, 0, 0), (0, 0, 0)], ()), (((0, 0, 0),), ()), (((0, 0, 0), (0, 0)), (1,)), (HUGE, ()),
    (((0, 0, True), None), (0, 2)), (((0, MOST + 1, -MOST - 1), None), (0, 1)), (((0, 0, 0), (-HUGE, 0, 0)), (1, 0)),
)]
BAD_DRAFTS = [(thing, error) for thing, error in (
    (0, BadDraft(())), ([None, None], BadDraft(())), ((None,), BadDraft(())), ((None, 3), BadDraft((1,))),
    ((True, None), BadDraft((0,))), ((0, [None]), BadDraft((1,))), ("--", BadDraft(())), (False, BadDraft(())),
    ((2, 2), NeverOne((0, 3, 4, 7))), ((0, 0), NeverOne((0, 1, 4, 5))), ({}, BadDraft(())), (HUGE, BadDraft(())),
)]
BAD_SETTINGS = [(thing, BadSetting(place)) for thing, place in (
    (None, ()), ((0,), ()), ([0, 1], ()), ((0, 3), (1,)), ((None, 0), (0,)), ((True, 3), (0,)), ((0, HUGE), (1,)),
    ("bc", ()), (((0, 1), 1), (0,)), (0, ()), ({0: 1}, ()),
)]
MANY_ROUNDS = [((2, 2), ManyRounds(2)), ((0, 0), ManyRounds(2))]


def nest_of_itself():
    rows = []
    rows.append(rows)
    return rows


def anything():
    """Things of many kinds, none of them a YARD, an END, a number that is small, or a text."""
    return [
        None, True, False, -1, HUGE, -HUGE, (), [], {}, set(), frozenset(), b"", b"0a-0b 0c-0d",
        (None,), [None], (0,), (0, 1), [0, 1], ((),), [[[]]], ((0, 1),), {0: 1}, {(0, 1), (2, 3)},
        object(), int, len, range(4), iter(()), nest_of_itself(), ((True, False), (2, 3)),
        ([0, 1], [2, 3]), (((0, 1), (2, 3)),), (HUGE, HUGE), ((HUGE, 1), (2, 3)), Ellipsis,
    ]


def chain(many):
    """The YARD in which each crossing has two LINES to the one behind it."""
    lines = [(0, 1)]
    for crossing in range(many - 1):
        lines += [(4 * crossing + 2, 4 * crossing + 4), (4 * crossing + 3, 4 * crossing + 5)]
    return tuple(lines + [(4 * many - 2, 4 * many - 1)])


def ring(many):
    """The YARD in which each crossing's c and d have LINES to a and b of the next one, around."""
    pairs = [(4 * at + 2, (4 * at + 4) % (4 * many)) for at in range(many)]
    pairs += [(4 * at + 3, (4 * at + 5) % (4 * many)) for at in range(many)]
    return tuple(sorted(tuple(sorted(pair)) for pair in pairs))


def pairings(ends):
    """All ways to part a list of ENDS into pairs, each a tuple of pairs, rising."""
    if not ends:
        yield ()
        return
    for at in range(1, len(ends)):
        for rest in pairings(ends[1:at] + ends[at + 1:]):
            yield ((ends[0], ends[at]),) + rest


def parts(ends, links):
    """ENDS parted by links, as lists."""
    part_of = {end: [end] for end in ends}
    for one, other in links:
        if part_of[one] is not part_of[other]:
            gone = part_of[other]
            part_of[one].extend(gone)
            for end in gone:
                part_of[end] = part_of[one]
    return [part for end, part in part_of.items() if part[0] == end]


def whole(lines):
    """Whether LINES hold together, asked END by END."""
    ends = range(2 * len(lines))
    same = [(end, end // 4 * 4) for end in ends]
    return len(parts(ends, list(lines) + same)) == 1


def all_yards(many):
    """All YARDS of so many crossings."""
    return [lines for lines in pairings(list(range(4 * many))) if whole(lines)]


def sewn(yard, crossing, way):
    """What is left of a YARD, as LINES that rise, or None where nothing is: by parts, not by going."""
    own = [4 * crossing + place for place in range(4)]
    joins = [(4 * crossing + one, 4 * crossing + other) for one, other in JOINED[way]]
    lines = []
    for part in parts(range(2 * len(yard)), list(yard) + joins):
        loose = sorted(end for end in part if end not in own)
        if not loose:
            return None
        lines.append(tuple(end - 4 if end > own[3] else end for end in loose))
    lines = tuple(sorted(lines))
    return lines if whole(lines) else None


def loose_yard(many, rng):
    """A YARD of so many crossings, its ENDS paired as the dice fall."""
    while True:
        ends = list(range(4 * many))
        rng.shuffle(ends)
        lines = tuple(sorted(tuple(sorted(ends[at:at + 2])) for at in range(0, 4 * many, 2)))
        if whole(lines):
            return lines


def grown_yard(many, rng):
    """A YARD of so many crossings, each but one PUT ACROSS: with many LINES that lead back and TWINS."""
    lines = [(0, 1), (2, 3)]
    for new in range(4, 4 * many, 4):
        one = lines.pop(rng.randrange(len(lines)))
        if rng.randrange(3) == 0:
            lines += [(one[0], new), (new + 1, new + 2), (one[1], new + 3)]
        else:
            other = lines.pop(rng.randrange(len(lines)))
            lines += [(one[0], new), (one[1], new + 2), (other[0], new + 1), (other[1], new + 3)]
    return tuple(sorted(lines))


def some_yards(seed, counts):
    """YARDS of so many crossings as the counts tell, a grown and a loose one of each."""
    rng = random.Random(seed)
    return [make(many, rng) for many in counts for make in (grown_yard, loose_yard)]


def some_ways(many, rng, kinds):
    """A tuple of so many of the kinds."""
    return tuple(rng.choice(kinds) for _ in range(many))


def some_worths(many, rng, kinds):
    """WORTHS of so many crossings, of the kinds."""
    return tuple(some_ways(3, rng, kinds) for _ in range(many))


def some_names(many, rng):
    """NAMES of so many crossings."""
    called = []
    for crossing in rng.sample(range(many), many):
        called += [4 * crossing + place for place in rng.sample(range(4), 4)]
    return tuple(called)


def worths_renamed(names, worths):
    """WORTHS by which what is joined, so called, is worth what it was."""
    told = [[None] * 3 for _ in worths]
    for crossing, three in enumerate(worths):
        for way, worth in enumerate(three):
            pairs = [{names[4 * crossing + one] % 4, names[4 * crossing + other] % 4} for one, other in JOINED[way]]
            new = [new for new in range(3) if set(JOINED[new][0]) in pairs][0]
            told[names[4 * crossing] // 4][new] = worth
    return tuple(tuple(three) for three in told)


def some_draft(yard, many_open, rng):
    """A DRAFT that CAN be one round, with so many OPEN crossings, or all of them."""
    draft = (None,) * (len(yard) // 2)
    for crossing in rng.sample(range(len(draft)), max(0, len(draft) - many_open)):
        three = [changed(draft, crossing, way) for way in rng.sample(range(3), 3)]
        draft = [tried for tried in three if len(holds(yard, tried)) == 1][0]
    return draft


def some_setting(yard, rng):
    """A SETTING of one ROUND."""
    return some_draft(yard, 0, rng)


def all_ways(many, kinds=(0, 1, 2)):
    """All tuples of so many of the kinds."""
    return list(itertools.product(kinds, repeat=many))


def fillings(draft):
    """All SETTINGS that FILL a DRAFT, rising."""
    return list(itertools.product(*[(0, 1, 2) if way is None else (way,) for way in draft]))


@functools.lru_cache(None)
def of_one_round(yard, draft):
    """All SETTINGS of one ROUND that FILL a DRAFT, rising."""
    return tuple(setting for setting in fillings(draft) if len(tours(yard, setting)) == 1)


def open_ones(draft):
    """The OPEN crossings, rising."""
    return [crossing for crossing, way in enumerate(draft) if way is None]


def worth_by(worths, setting):
    """What a SETTING is worth."""
    return sum(three[way] for three, way in zip(worths, setting))


def most_worth(yard, worths, draft=None):
    """What SETTINGS of one ROUND that FILL a DRAFT are worth at the most, all gone through."""
    draft = (None,) * (len(yard) // 2) if draft is None else draft
    return max(worth_by(worths, setting) for setting in of_one_round(yard, draft))


def up(pairs, many):
    """LINES whose crossings are called so many more."""
    return [(low + 4 * many, high + 4 * many) for low, high in pairs]


def changed(ways, crossing, way):
    """WAYS with this one at the crossing."""
    return tuple(way if at == crossing else old for at, old in enumerate(ways))


def joins(ways):
    """All pairs of ENDS that are joined by WAYS, None of those that are OPEN."""
    return [
        (4 * crossing + one, 4 * crossing + other)
        for crossing, way in enumerate(ways) if way is not None
        for one, other in JOINED[way]
    ]


def tours(yard, ways):
    """The ENDS, parted by LINES and by what is joined; each part rising, all rising."""
    return sorted(sorted(part) for part in parts(range(2 * len(yard)), list(yard) + joins(ways)))


def holds(yard, draft):
    """The ENDS, parted by LINES, by what is joined and by OPEN crossings; each part rising, all rising."""
    four = [(4 * at, 4 * at + place) for at, way in enumerate(draft) if way is None for place in (1, 2, 3)]
    links = list(yard) + joins(draft) + four
    return sorted(sorted(part) for part in parts(range(2 * len(yard)), links))


def ways_place(thing, many, kinds=(0, 1, 2)):
    """The place at which a thing is no tuple of so many of the kinds; None of one."""
    if type(thing) is not tuple or len(thing) != many:
        return ()
    for at, way in enumerate(thing):
        if not any(type(way) is type(kind) and way == kind for kind in kinds):
            return (at,)
    return None


def check_order(test, call, good, bad):
    """Where all arguments from some place on are bad that of the first is told.

    bad has, for each argument, what is bad and the error that it brings.
    """
    for at, (_, error) in enumerate(bad):
        arguments = list(good[:at]) + [thing for thing, _ in bad[at:]]
        with refused(test, type(error), **vars(error)):
            call(*arguments)


def check_interface(test, module, rows):
    """Each name is a function of that very file, with those arguments."""
    for name, arguments in rows:
        call = getattr(module, name)
        test.assertEqual(str(inspect.signature(call)), f"({arguments})")
        test.assertEqual(call.__module__, module.__name__)


@contextlib.contextmanager
def refused(test, kind, **fields):
    """What stands in it is refused by that very kind of error, with those fields."""
    try:
        yield
    except Exception as error:
        test.assertIs(type(error), kind)
        for name, worth in fields.items():
            told = getattr(error, name)
            test.assertEqual(told, worth)
            test.assertIs(type(told), type(worth))
    else:
        test.fail(f"{kind.__name__} was due")
