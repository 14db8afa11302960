import random
import unittest

from oneround import exchanges
from oneround.errors import BadSetting, BadTurn, ManyRounds, OutOfPlace
from oneround.exchanges import differ, done, exchange, path
from tests.samples import (
    BAD_SETTINGS, BAD_YARDS, HUGE, MANY_ROUNDS, TWO, all_ways, all_yards, anything, chain, changed, check_interface,
    check_order, of_one_round, refused, ring, some_setting, some_ways, some_yards, tours,
)

ONE = ((0, 1), (2, 3))


def pairs_of_one_round():
    """Rows (YARD, SETTING, OTHER), both of one ROUND."""
    rng = random.Random(121)
    told = []
    for yard in all_yards(1) + all_yards(2)[::10] + all_yards(3)[::2000]:
        all_of_one = of_one_round(yard, (None,) * (len(yard) // 2))
        told += [(yard, one, other) for one in all_of_one for other in all_of_one]
    for yard in some_yards(122, (5, 9, 20, 40)) + [chain(40), ring(40)]:
        told += [(yard, some_setting(yard, rng), some_setting(yard, rng)) for _ in range(3)]
    return told


PAIRS = pairs_of_one_round()


def exchange_by_words(yard, setting, other, crossing):
    first = (crossing, other[crossing])
    one = changed(setting, *first)
    both = tours(yard, one)
    if len(both) == 1:
        return (first,)
    assert len(both) == 2
    for at in range(len(setting)):
        four = range(4 * at, 4 * at + 4)
        if at != crossing and setting[at] != other[at] and all(set(ends) & set(four) for ends in both):
            return (first, (at, other[at]))


def turned_by_hand(setting, turns):
    for turn in turns:
        setting = changed(setting, *turn)
    return setting


class DifferTest(unittest.TestCase):
    def test_by_hand(self):
        self.assertEqual(differ(ONE, (0,), (0,)), ())
        self.assertEqual(differ(ONE, (0,), (2,)), (0,))
        self.assertEqual(differ(TWO, (2, 2), (0, 0)), (0, 1))
        self.assertEqual(differ(chain(40), (0,) * 40, (0, 1) * 20), tuple(range(1, 40, 2)))

    def test_settings_of_any_rounds(self):
        rng = random.Random(123)
        for yard in all_yards(2)[::20] + some_yards(124, (4, 40)):
            for _ in range(10):
                one, other = (some_ways(len(yard) // 2, rng, (0, 1, 2)) for _ in range(2))
                told = differ(yard, one, other)
                self.assertEqual(told, tuple(at for at in range(len(one)) if one[at] != other[at]))
                self.assertIs(type(told), tuple)


class ExchangeTest(unittest.TestCase):
    def test_by_hand(self):
        self.assertEqual(exchange(ONE, (1,), (2,), 0), ((0, 2),))
        self.assertEqual(exchange(TWO, (0, 1), (1, 0), 0), ((0, 1), (1, 0)))
        self.assertEqual(exchange(TWO, (0, 1), (1, 0), 1), ((1, 0), (0, 1)))
        self.assertEqual(exchange(TWO, (0, 1), (2, 1), 0), ((0, 2),))
        self.assertEqual(exchange(ring(3), (0, 1, 1), (1, 1, 2), 0), ((0, 1), (2, 2)))
        self.assertEqual(exchange(ring(3), (0, 1, 1), (1, 2, 1), 0), ((0, 1), (1, 2)))
        self.assertEqual(exchange(ring(3), (0, 1, 1), (2, 2, 2), 1), ((1, 2),))
        self.assertEqual(exchange(ring(4), (0, 1, 1, 1), (2, 2, 2, 1), 2), ((2, 2),))
        self.assertEqual(exchange(ring(4), (1, 1, 1, 2), (2, 2, 2, 1), 2), ((2, 2), (0, 2)))

    def test_as_the_words_have_it(self):
        many = [0, 0, 0]
        for yard, setting, other in PAIRS:
            for crossing in range(len(setting)):
                if setting[crossing] != other[crossing]:
                    told = exchange(yard, setting, other, crossing)
                    self.assertEqual(told, exchange_by_words(yard, setting, other, crossing))
                    self.assertEqual({type(told)} | {type(turn) for turn in told}, {tuple})
                    many[len(told)] += 1
        self.assertGreater(many[1], 100)
        self.assertGreater(many[2], 100)

    def test_one_round_again_and_nearer(self):
        for yard, setting, other in PAIRS:
            for crossing in range(0, len(setting), 1 + len(setting) // 7):
                if setting[crossing] != other[crossing]:
                    turns = exchange(yard, setting, other, crossing)
                    behind = turned_by_hand(setting, turns)
                    self.assertEqual(len(tours(yard, behind)), 1)
                    self.assertEqual(len(differ(yard, behind, other)), len(differ(yard, setting, other)) - len(turns))

    def test_out_of_place(self):
        for thing in anything() + [2, 3, "0", (0,)]:
            with self.subTest(repr(thing)[:80]), refused(self, OutOfPlace, place=()):
                exchange(TWO, (0, 1), (1, 0), thing)
        for setting, other in (((0, 1), (2, 1)), ((2, 1), (2, 0))):
            for crossing in range(2):
                if setting[crossing] == other[crossing]:
                    with refused(self, OutOfPlace, place=()):
                        exchange(TWO, setting, other, crossing)
        for crossing in range(2):
            with refused(self, OutOfPlace, place=()):
                exchange(TWO, (0, 1), (0, 1), crossing)


class PathTest(unittest.TestCase):
    def test_by_hand(self):
        self.assertEqual(path(ONE, (1,), (1,)), ())
        self.assertEqual(path(ONE, (1,), (2,)), (((0, 2),),))
        self.assertEqual(path(TWO, (0, 1), (1, 0)), (((0, 1), (1, 0)),))
        self.assertEqual(path(chain(3), (1, 1, 1), (2, 1, 2)), (((0, 2),), ((2, 2),)))
        self.assertEqual(path(ring(4), (1, 1, 1, 2), (2, 2, 2, 1)), (((0, 2), (1, 2)), ((2, 2), (3, 1))))

    def test_as_the_words_have_it(self):
        for yard, setting, other in PAIRS:
            told = path(yard, setting, other)
            self.assertIs(type(told), tuple)
            for turns in told:
                self.assertNotEqual(setting, other)
                least = min(at for at in range(len(setting)) if setting[at] != other[at])
                self.assertEqual(turns, exchange_by_words(yard, setting, other, least))
                setting = turned_by_hand(setting, turns)
            self.assertEqual(setting, other)

    def test_done_exchange_by_exchange_it_leads_to_the_other_one(self):
        for yard, setting, other in PAIRS:
            for turns in path(yard, setting, other):
                setting = done(yard, setting, turns)
            self.assertEqual(setting, other)

    def test_of_alike_ones(self):
        for yard, setting, _ in PAIRS:
            self.assertEqual(path(yard, setting, setting), ())


class DoneTest(unittest.TestCase):
    def test_by_hand(self):
        self.assertEqual(done(ONE, (0,), ()), (0,))
        self.assertEqual(done(ONE, (0,), ((0, 0),)), (0,))
        self.assertEqual(done(TWO, (2, 2), ((1, 0), (0, 1), (1, 1))), (1, 1))

    def test_of_however_many_rounds_and_turns(self):
        rng = random.Random(125)
        for yard in [ONE, TWO] + some_yards(126, (3, 40)):
            many = len(yard) // 2
            for length in (0, 1, 2, 5, 100):
                setting = some_ways(many, rng, (0, 1, 2))
                turns = tuple((rng.randrange(many), rng.randrange(3)) for _ in range(length))
                told = done(yard, setting, turns)
                self.assertEqual(told, turned_by_hand(setting, turns))
                self.assertIs(type(told), tuple)
        for setting in all_ways(2):
            self.assertEqual(done(TWO, setting, ()), setting)

    def test_of_what_is_no_tuple(self):
        for thing in anything() + [[(0, 1)], "0b", {(0, 1): 1}, {0: 1}]:
            if type(thing) is not tuple:
                with self.subTest(repr(thing)[:80]), refused(self, BadTurn, place=()):
                    done(TWO, (0, 0), thing)

    def test_of_the_first_that_is_no_turn(self):
        things = [thing for thing in anything() if thing not in ((0, 1), (True, 0))] + [
            [0, 1], (0,), (0, 1, 2), (2, 0), (-1, 0), (0, 3), (0, -1), (True, 0), (0, True), (0, None), ("0", 1),
            (HUGE, 0), (0, HUGE), "0b", ((0, 1),),
        ]
        for thing in things:
            with self.subTest(repr(thing)[:80]):
                for ahead in (0, 1, 3):
                    with refused(self, BadTurn, place=(ahead,)):
                        done(TWO, (0, 0), ((0, 1),) * ahead + (thing, thing))


class RefusedTest(unittest.TestCase):
    def test_in_order(self):
        no_ones = BAD_SETTINGS + MANY_ROUNDS
        for kind in range(30):
            yard = BAD_YARDS[kind % 8]
            one, other = BAD_SETTINGS[kind % 11], BAD_SETTINGS[kind % 7]
            check_order(self, differ, (TWO, (0, 1), (2, 2)), [yard, one, other])
            check_order(self, done, (TWO, (0, 0), ()), [yard, one, (0, BadTurn(()))])
            one, other = no_ones[kind % 13], no_ones[kind % 12]
            check_order(self, exchange, (TWO, (0, 1), (1, 0), 0), [yard, one, other, (2, OutOfPlace(()))])
            check_order(self, path, (TWO, (0, 1), (1, 0)), [yard, one, other])

    def test_each_kind_of_each(self):
        for thing, error in BAD_SETTINGS:
            for call in (differ, path, lambda *told: exchange(*told, 0)):
                for arguments in ((thing, (1, 0)), ((0, 1), thing), (thing, thing)):
                    with refused(self, BadSetting, place=error.place):
                        call(TWO, *arguments)
            with refused(self, BadSetting, place=error.place):
                done(TWO, thing, None)

    def test_how_many_rounds(self):
        for call in (path, lambda *told: exchange(*told, 0)):
            for many in (2, 3, 40, 41):
                setting, good = (0,) * (many - 1) + (1,) * (41 - many), (2,) * 40
                setting = setting[:40]
                for arguments in ((setting, good), (good, setting), (setting, (0,) * 40), (setting, None)):
                    with refused(self, ManyRounds, many=many):
                        call(chain(40), *arguments)
            # each by itself: the first one's ROUNDS are told ahead of what the second one is
            with refused(self, ManyRounds, many=2):
                call(TWO, (0, 0), (0, 3))
            with refused(self, BadSetting, place=(1,)):
                call(TWO, (0, 3), (0, 0))

    def test_nothing_handed_in_is_changed(self):
        turns = ((0, 1), [[1], 2])
        with refused(self, BadTurn, place=(1,)):
            done(TWO, (0, 0), turns)
        self.assertEqual(turns, ((0, 1), [[1], 2]))

    def test_names_and_arguments(self):
        check_interface(self, exchanges, (
            ("differ", "yard, setting, other"), ("exchange", "yard, setting, other, crossing"),
            ("path", "yard, setting, other"), ("done", "yard, setting, turns"),
        ))


if __name__ == "__main__":
    unittest.main()
