import itertools
import random
import unittest

from oneround import tables
from oneround.errors import BadSetting, BadTable, BadTurn, ManyRounds
from oneround.exchanges import done, path
from oneround.rounds import many_rounds, outer_way
from oneround.tables import is_nought, need_table, noughts, rounds_by, table_of, table_turned
from tests.samples import (
    BAD_SETTINGS, BAD_YARDS, HUGE, MANY_ROUNDS, TWO, all_ways, all_yards, anything, chain, changed, check_interface,
    check_order, nest_of_itself, of_one_round, refused, ring, some_setting, some_ways, some_yards, tours,
)

ONE = ((0, 1), (2, 3))

# the TABLE of TWO and (0, 1)
TABLE = ((0, 1), (1, 0), ((1,), (0,)))
APART = ((0, 1), (1, 2), ((), ()))


def with_part(number, part):
    return TABLE[:number] + (part,) + TABLE[number + 1:]


# (what is handed in for a TABLE, the place at which it is none)
NO_TABLES = (
    [(thing, ()) for thing in anything() if type(thing) is not tuple or len(thing) != 3]
    + [(thing, ()) for thing in (list(TABLE), TABLE[:2], TABLE + ((),), "abc", TABLE[0], dict(enumerate(TABLE)))]
    + [(with_part(0, thing), (0,)) for thing in anything() if thing not in ((0,), (0, 1)) or type(thing) is list]
    + [(with_part(0, thing), (0,)) for thing in (
        (), [0, 1], (0, 3), (0, -1), (None, 1), (0, True), (0, 1) * 20 + (0,), (HUGE, 0), "bc", (0,) * 41, (True,),
    )]
    + [(with_part(1, thing), (1,)) for thing in anything()]
    + [(with_part(1, thing), (1,)) for thing in (
        (1,), (1, 0, 2), [1, 0], (0, 0), (1, 1), (0, 1), (1, 3), (True, 0), (1, None), (HUGE, 0), (2, False), "ab",
    )]
    + [(with_part(2, thing), (2,)) for thing in anything()]
    + [(with_part(2, thing), (2,)) for thing in (
        ((1,),), ((1,), (0,), ()), [(1,), (0,)], ((1,), ()), ((), (0,)), ((1,), [0]), ((0,), ()), ((), (1,)),
        ((1, 1), (0,)), ((0, 1), (0,)), ((1,), (0, 1)), ((2,), (0,)), ((-1,), (0,)), ((True,), (0,)), ((1,), (False,)),
        ((1,), None), (None, None), ("1", "0"), (((1,),), (0,)), ((HUGE,), (0,)), (({},), ([],)), ({1: 1}, {0: 0}),
    )]
    + [(((0, 0, 0), (1, 1, 1), rows), (2,)) for rows in (
        ((1, 2), (0,), ()), ((2, 1), (0,), (0,)), ((1, 2), (0, 2), (0,)), ((), (2,), (1, 2)), ((1, 2, 3), (0,), (0,)),
        ((1,), (2,), (0,)), ((1, 1, 2), (0,), (0,)),
    )]
    + [((None, None, None), (0,)), (((0, 1), None, None), (1,)), (((0, 3), (0, 1), 5), (0,)), (((), (), ()), (0,))]
    + [((nest_of_itself(),) * 3, (0,)), (((0,) * 41, (1,) * 41, ((),) * 41), (0,))]
)


def pairs_of_one_round():
    """Pairs of a YARD and a SETTING of one ROUND."""
    rng = random.Random(131)
    told = []
    for yard in all_yards(1) + all_yards(2)[::5] + all_yards(3)[::900] + some_yards(132, (4, 5)):
        all_of_one = of_one_round(yard, (None,) * (len(yard) // 2))
        told += [(yard, setting) for setting in rng.sample(all_of_one, min(3, len(all_of_one)))]
    for yard in some_yards(133, (6, 10, 25, 40)) + [chain(40), ring(40), ring(39)]:
        told += [(yard, some_setting(yard, rng)) for _ in range(3)]
    return told


PAIRS = pairs_of_one_round()
SMALL = [pair for pair in PAIRS if len(pair[1]) < 5]


def some_table(many, rng):
    """A TABLE by its form alone."""
    setting = some_ways(many, rng, (0, 1, 2))
    outers = tuple(rng.choice([way for way in range(3) if way != old]) for old in setting)
    beside = [[] for _ in setting]
    for one, other in itertools.combinations(range(many), 2):
        if rng.randrange(2):
            beside[one].append(other)
            beside[other].append(one)
    return (setting, outers, tuple(tuple(crossings) for crossings in beside))


def loose_tables():
    rng = random.Random(134)
    return [some_table(many, rng) for many in (1, 2, 2, 2, 3, 3, 4, 4, 4, 5) for _ in range(3)]


LOOSE = loose_tables()


def marked(table, setting):
    return [at for at, way in enumerate(setting) if way != table[0][at]]


def one_at(table, setting, row, column):
    """What the SQUARE has there."""
    if row == column:
        return int(setting[row] != table[1][row])
    return int(column in table[2][row])


def is_nought_by_words(table, setting, some):
    columns = marked(table, setting)
    return all(sum(one_at(table, setting, row, column) for row in some) % 2 == 0 for column in columns)


def all_noughts(table, setting):
    there = marked(table, setting)
    every = [some for many in range(len(there) + 1) for some in itertools.combinations(there, many)]
    return [some for some in every if is_nought_by_words(table, setting, some)]


def first_noughts_by_words(table, setting):
    """The FIRST NOUGHTS: for each row all sums of FREE ones ahead gone through."""
    free, told = [], []
    for crossing in marked(table, setting):
        every = [some for many in range(len(free) + 1) for some in itertools.combinations(free, many)]
        sums = [some for some in every if is_nought_by_words(table, setting, some + (crossing,))]
        if sums:
            told.append(sums[0] + (crossing,))
        else:
            free.append(crossing)
    return tuple(told)


def table_by_words(yard, setting):
    """The TABLE, gone round by hand."""
    far = {}
    for low, high in yard:
        far[low], far[high] = high, low
    joined = {}
    for crossing, way in enumerate(setting):
        for one, other in {0: ((0, 1), (2, 3)), 1: ((0, 2), (1, 3)), 2: ((0, 3), (1, 2))}[way]:
            joined[4 * crossing + one], joined[4 * crossing + other] = 4 * crossing + other, 4 * crossing + one
    seen, end = [], 0
    while not seen or end != 0:
        seen.append(far[end] // 4)
        end = joined[far[end]]
    rows = []
    for crossing in range(len(setting)):
        told = []
        for other in range(len(setting)):
            if other != crossing:
                both = [at for at in seen if at in (crossing, other)]
                if both[0] == both[2]:
                    told.append(other)
        rows.append(tuple(told))
    outers = []
    for crossing in range(len(setting)):
        many = [len(tours(yard, changed(setting, crossing, way))) for way in range(3)]
        outers.append(many.index(2))
    return (setting, tuple(outers), tuple(rows))


class NeedTableTest(unittest.TestCase):
    def test_the_very_thing_is_told(self):
        for table in [TABLE, APART, ((0,), (1,), ((),)), ((0,) * 40, (2,) * 40, ((),) * 40)] + LOOSE:
            self.assertIs(need_table(table), table)
        full = tuple(tuple(other for other in range(40) if other != at) for at in range(40))
        table = ((0, 1) * 20, (1, 2) * 20, full)
        self.assertIs(need_table(table), table)

    def test_each_fault_is_told_by_its_place(self):
        for thing, place in NO_TABLES:
            with self.subTest(repr(thing)[:80]), refused(self, BadTable, place=place):
                need_table(thing)

    def test_all_small_tables_by_their_form(self):
        kinds = [(), (0,), (1,), (0, 1)]
        for setting, outers, rows in itertools.product(all_ways(2), all_ways(2), itertools.product(kinds, repeat=2)):
            thing = (setting, outers, rows)
            if setting[0] == outers[0] or setting[1] == outers[1]:
                place = (1,)
            else:
                place = None if rows in (((), ()), ((1,), (0,))) else (2,)
            if place is None:
                self.assertIs(need_table(thing), thing)
            else:
                with refused(self, BadTable, place=place):
                    need_table(thing)

    def test_all_others_refuse_it_so_ahead_of_all_else(self):
        for thing, place in NO_TABLES:
            for call in (rounds_by, noughts, lambda table, other: is_nought(table, other, None), table_turned):
                for other in (None, (0, 3), [], HUGE):
                    with self.subTest(repr(thing)[:80]), refused(self, BadTable, place=place):
                        call(thing, other)


class TableOfTest(unittest.TestCase):
    def test_by_hand(self):
        self.assertEqual(table_of(ONE, (1,)), ((1,), (0,), ((),)))
        self.assertEqual(table_of(ONE, (2,)), ((2,), (0,), ((),)))
        self.assertEqual(table_of(TWO, (0, 1)), TABLE)
        self.assertEqual(table_of(chain(3), (1, 1, 2)), ((1, 1, 2), (0, 0, 0), ((), (), ())))
        self.assertEqual(table_of(ring(3), (0, 1, 1)), ((0, 1, 1), (1, 0, 0), ((1, 2), (0,), (0,))))

    def test_gone_round_by_hand(self):
        for yard, setting in PAIRS:
            told = table_of(yard, setting)
            self.assertEqual(told, table_by_words(yard, setting))
            self.assertEqual({type(part) for part in told} | {type(crossings) for crossings in told[2]}, {tuple})
            self.assertIs(need_table(told), told)

    def test_outers_are_those_that_outer_way_tells(self):
        for yard, setting in PAIRS[::3]:
            outers = table_of(yard, setting)[1]
            self.assertEqual(outers, tuple(outer_way(yard, setting, at) for at in range(len(setting))))

    def test_refused(self):
        for kind in range(26):
            setting = (BAD_SETTINGS + MANY_ROUNDS)[kind % 13]
            check_order(self, table_of, (TWO, (0, 1)), [BAD_YARDS[kind % 8], setting])
        for many in (2, 7, 41):
            with refused(self, ManyRounds, many=many):
                table_of(chain(40), ((0,) * (many - 1) + (1,) * 40)[:40])


class RoundsByTest(unittest.TestCase):
    def test_by_hand(self):
        self.assertEqual([rounds_by(((1,), (0,), ((),)), (way,)) for way in range(3)], [2, 1, 1])
        self.assertEqual([rounds_by(TABLE, setting) for setting in all_ways(2)], [2, 1, 1, 1, 2, 1, 1, 1, 2])
        self.assertEqual([rounds_by(APART, setting) for setting in all_ways(2)], [1, 1, 2, 2, 2, 3, 1, 1, 2])
        self.assertEqual(noughts(APART, (1, 2)), ((0,), (1,)))
        self.assertEqual(noughts(TABLE, (2, 2)), ((0, 1),))
        self.assertEqual(noughts(TABLE, (0, 1)), ())

    def test_as_many_as_the_setting_has(self):
        rng = random.Random(135)
        for yard, setting in PAIRS:
            table = table_of(yard, setting)
            many = len(setting)
            others = all_ways(many) if many < 5 else [some_ways(many, rng, (0, 1, 2)) for _ in range(10)]
            others += [(way,) * many for way in range(3)] + [table[1], setting]
            for other in others:
                self.assertEqual(rounds_by(table, other), len(tours(yard, other)))

    def test_forty_one_rounds(self):
        table = table_of(chain(40), (1, 2) * 20)
        self.assertEqual(rounds_by(table, (0,) * 40), 41)
        self.assertEqual(noughts(table, (0,) * 40), tuple((at,) for at in range(40)))

    def test_first_noughts_as_the_words_have_them(self):
        found = 0
        for table in [table_of(*pair) for pair in SMALL] + LOOSE:
            for setting in all_ways(len(table[0]))[::2]:
                told = noughts(table, setting)
                self.assertEqual(told, first_noughts_by_words(table, setting))
                self.assertEqual({type(told)} | {type(some) for some in told}, {tuple})
                self.assertEqual(rounds_by(table, setting), len(told) + 1)
                self.assertEqual(len(all_noughts(table, setting)), 2 ** len(told))
                found += max([len(some) for some in told], default=0) > 2
        self.assertGreater(found, 20)

    def test_large_ones_by_what_a_nought_is(self):
        rng = random.Random(136)
        for yard, setting in [pair for pair in PAIRS if len(pair[1]) > 20]:
            table = table_of(yard, setting)
            other = some_ways(len(setting), rng, (0, 1, 2))
            told = noughts(table, other)
            self.assertEqual(len(told) + 1, many_rounds(yard, other))
            last = [some[-1] for some in told]
            self.assertEqual(last, sorted(set(last)))
            for some in told:
                self.assertEqual(list(some), sorted(set(some)))
                self.assertTrue(is_nought_by_words(table, other, some))
                self.assertIs(is_nought(table, other, some), True)
                # all others of it are FREE
                self.assertEqual([at for at in some if at in last], [some[-1]])

    def test_noughts_are_the_crossings_between_some_rounds_and_the_others(self):
        for yard, setting in SMALL[::2]:
            table = table_of(yard, setting)
            for other in all_ways(len(setting)):
                rounds = tours(yard, other)
                between = set()
                for bits in itertools.product((False, True), repeat=len(rounds)):
                    some = []
                    for at in marked(table, other):
                        sides = {bit for bit, ends in zip(bits, rounds) if set(ends) & set(range(4 * at, 4 * at + 4))}
                        if len(sides) == 2:
                            some.append(at)
                    between.add(tuple(some))
                self.assertEqual(sorted(between), sorted(all_noughts(table, other)))

    def test_no_setting_by_as_many_crossings_as_the_table_has(self):
        for thing, error in BAD_SETTINGS:
            for call in (rounds_by, noughts, lambda table, setting: is_nought(table, setting, ())):
                with refused(self, BadSetting, place=error.place):
                    call(TABLE, thing)
        for call in (rounds_by, noughts, lambda table, setting: is_nought(table, setting, None)):
            for setting, place in (((0,) * 39, ()), ((0,) * 41, ()), ((0,) * 39 + (3,), (39,))):
                with refused(self, BadSetting, place=place):
                    call(((1,) * 40, (0,) * 40, ((),) * 40), setting)


class IsNoughtTest(unittest.TestCase):
    def test_by_hand(self):
        self.assertIs(is_nought(TABLE, (2, 2), ()), True)
        self.assertIs(is_nought(TABLE, (2, 2), (0, 1)), True)
        self.assertIs(is_nought(TABLE, (2, 2), (0,)), False)
        self.assertIs(is_nought(APART, (1, 2), (0, 1)), True)
        self.assertIs(is_nought(APART, (1, 1), (0, 1)), False)
        self.assertIs(is_nought(APART, (1, 1), (0,)), True)

    def test_all_tuples_of_crossings(self):
        for table in [table_of(*pair) for pair in SMALL[::7]] + LOOSE[::2]:
            many = len(table[0])
            every = [some for length in range(4) for some in itertools.product(range(-1, many + 1), repeat=length)]
            for setting in all_ways(many)[::4]:
                good = all_noughts(table, setting)
                for some in every:
                    self.assertIs(is_nought(table, setting, some), some in good)
                for some in good:
                    self.assertIs(is_nought(table, setting, some), True)
                    self.assertIs(is_nought(table, setting, list(some)), False)

    def test_of_anything(self):
        things = anything() + [[], [0], (1, 0), (0, 0), (False,), (False, True), (0, True), "0", {0: 1}, (0, HUGE),
                               ((0,), (1,)), (None,), ("0", "1"), (0, 1, 2), (-2, -1), {0, 1}, ([0], [1])]
        for thing in things:
            is_one = type(thing) is tuple and repr(thing) in ("()", "(0, 1)")
            with self.subTest(repr(thing)[:80]):
                self.assertIs(is_nought(TABLE, (2, 2), thing), is_one)
                self.assertIs(is_nought(TABLE, (0, 1), thing), type(thing) is tuple and thing == ())


class TableTurnedTest(unittest.TestCase):
    def test_by_hand(self):
        self.assertEqual(table_turned(((1,), (0,), ((),)), ((0, 2),)), ((2,), (0,), ((),)))
        self.assertEqual(table_turned(TABLE, ((0, 2),)), ((2, 1), (1, 2), ((1,), (0,))))
        self.assertEqual(table_turned(TABLE, ((0, 1), (1, 0))), ((1, 0), (0, 1), ((1,), (0,))))
        self.assertEqual(table_turned(TABLE, ((1, 0), (0, 1))), ((1, 0), (0, 1), ((1,), (0,))))
        self.assertEqual(table_turned(APART, ((0, 2), (1, 0))), ((2, 0), (1, 2), ((), ())))

    def turnings(self, setting):
        """All tuples of one TURN, and of two at unlike crossings, to other WAYS."""
        turns = [(at, way) for at, old in enumerate(setting) for way in range(3) if way != old]
        return [(turn,) for turn in turns] + [
            (one, other) for one in turns for other in turns if one[0] != other[0]
        ]

    def test_of_small_yards_it_is_what_table_of_tells(self):
        many = 0
        for yard, setting in SMALL:
            table = table_of(yard, setting)
            for turns in self.turnings(setting):
                behind = done(yard, setting, turns)
                if len(tours(yard, behind)) == 1:
                    self.assertEqual(table_turned(table, turns), table_of(yard, behind))
                    many += 1
                else:
                    with refused(self, BadTurn, place=()):
                        table_turned(table, turns)
        self.assertGreater(many, 500)

    def test_of_large_yards_too(self):
        rng = random.Random(137)
        for yard, setting in [pair for pair in PAIRS if len(pair[1]) > 4]:
            table = table_of(yard, setting)
            turnings = self.turnings(setting)
            for turns in rng.sample(turnings, min(20, len(turnings))):
                behind = done(yard, setting, turns)
                if many_rounds(yard, behind) == 1:
                    self.assertEqual(table_turned(table, turns), table_of(yard, behind))
                else:
                    with refused(self, BadTurn, place=()):
                        table_turned(table, turns)

    def test_along_paths(self):
        rng = random.Random(138)
        for yard, setting in PAIRS:
            other = some_setting(yard, rng)
            table = table_of(yard, setting)
            for turns in path(yard, setting, other):
                setting = done(yard, setting, turns)
                table = table_turned(table, turns)
                self.assertEqual(table, table_of(yard, setting))
                self.assertIs(need_table(table), table)
            self.assertEqual(table[0], other)

    def test_tables_of_no_yard_tell_the_same_of_all_settings(self):
        for table in LOOSE:
            every = all_ways(len(table[0]))
            told = [rounds_by(table, setting) for setting in every]
            for turns in self.turnings(table[0]):
                behind = table[0]
                for turn in turns:
                    behind = changed(behind, *turn)
                if rounds_by(table, behind) == 1:
                    new = table_turned(table, turns)
                    self.assertIs(need_table(new), new)
                    self.assertEqual(new[0], behind)
                    self.assertEqual([rounds_by(new, setting) for setting in every[::3]], told[::3])
                else:
                    with refused(self, BadTurn, place=()):
                        table_turned(table, turns)

    def test_of_what_are_no_such_turns(self):
        things = anything() + [
            (), [(0, 2)], ((0, 2), (0, 1)), ((0, 2), (0, 2)), ((0, 1), (1, 0), (0, 2)), (0, 2), ([0, 2],),
            ((0, 0),), ((1, 1),), ((0, 0), (1, 0)), ((0, 1), (1, 1)), ((0, 0), (1, 1)), ((2, 0),), ((0, 3),),
            ((-1, 0),), ((0, True),), ((False, 2),), ((0, 2), None), (None, (0, 2)), ((0, 2), (1, 0), None),
            ((0, 2, 1),), ((0,),), "0d", ("0d",), {(0, 2): 1}, ((HUGE, 2),), ((0, HUGE),), ((0, 2), (2, 0)),
            ((0, -1),), (((0, 2),),), ((0, 2), [1, 0]), ((0, None),), nest_of_itself(),
        ]
        for thing in things:
            with self.subTest(repr(thing)[:80]), refused(self, BadTurn, place=()):
                table_turned(TABLE, thing)

    def test_where_more_rounds_than_one_would_come(self):
        for table, turns in (
            (TABLE, ((0, 1),)), (TABLE, ((1, 0),)), (TABLE, ((0, 2), (1, 2))), (APART, ((0, 1),)),
            (APART, ((0, 1), (1, 2))), (APART, ((0, 2), (1, 2))), (APART, ((0, 1), (1, 0))),
        ):
            with refused(self, BadTurn, place=()):
                table_turned(table, turns)

    def test_nothing_handed_in_is_changed(self):
        table, turns = ((0, 1), [1, {0: [2]}], [[1], [0]]), [[0, 2]]
        with refused(self, BadTable, place=(1,)):
            table_turned(table, turns)
        with refused(self, BadTurn, place=()):
            table_turned(TABLE, turns)
        self.assertEqual((table, turns), (((0, 1), [1, {0: [2]}], [[1], [0]]), [[0, 2]]))


class InterfaceTest(unittest.TestCase):
    def test_names_and_arguments(self):
        check_interface(self, tables, (
            ("need_table", "thing"), ("table_of", "yard, setting"), ("rounds_by", "table, setting"),
            ("noughts", "table, setting"), ("is_nought", "table, setting, thing"), ("table_turned", "table, turns"),
        ))


if __name__ == "__main__":
    unittest.main()
