import itertools
import random
import unittest

from oneround import worths as worths_file
from oneround.errors import BadSetting, BadWorths, BadYard, OutOfPlace
from oneround.worths import MOST_WORTH, need_worths, rank, regret, row, worth_of
from tests.samples import (
    HUGE, MOST, TWO, all_ways, anything, chain, check_interface, check_order, nest_of_itself, refused,
    some_worths,
)

ONE = ((0, 1), (2, 3))
NO_YARD = (ONE[0], ONE[0])
GOOD = ((1, 2, 3), (-4, 0, 4))
ZERO = (0, 0, 0)

# (what is handed in for a YARD of two crossings, the place at which it is no WORTHS)
NO_WORTHS = (
    [(thing, ()) for thing in anything() if type(thing) is not tuple or len(thing) != 2]
    + [(thing, ()) for thing in (list(GOOD), GOOD[:1], GOOD + (ZERO,), "ab", dict([(0, ZERO), (1, ZERO)]))]
    + [((thing, ZERO), (0,)) for thing in anything()]
    + [((ZERO, thing), (1,)) for thing in anything() + [[0, 0, 0], (0, 0), (0, 0, 0, 0), "000", 0]]
    + [((thing, thing), (0,)) for thing in ([0, 0, 0], (0, 0), None, 0, nest_of_itself())]
    + [(((thing, 0, 0), ZERO), (0, 0)) for thing in anything() + [MOST + 1, -MOST - 1, "0"]]
    + [((ZERO, (0, thing, thing)), (1, 1)) for thing in anything() if thing != -1]
    + [((ZERO, (0, MOST, thing)), (1, 2)) for thing in (MOST + 1, -MOST - 1, HUGE, True, False, None, "0")]
    + [
        (((0, 0, None), [0]), (0, 2)), (((0, 0), (0, 0, None)), (0,)), ((ZERO, (True, 0)), (1,)),
        (((True, 0, 0), ZERO), (0, 0)), (((0, True, None), None), (0, 1)),
    ]
)
# -1 is a number, if no small one: these are WORTHS.
NO_WORTHS = [(thing, place) for thing, place in NO_WORTHS if place != (0, 0) or thing[0] != (-1, 0, 0)]


def cases():
    """Pairs of a YARD and WORTHS: many alike, at both bounds, and others."""
    rng = random.Random(81)
    told = []
    for many in (1, 2, 3, 7, 40):
        for kinds in ((0,), (0, 1), (-1, 0, 1, 2), (-MOST, MOST), (-MOST, 1 - MOST, 0, MOST - 1, MOST), range(-99, 99)):
            told += [(chain(many), some_worths(many, rng, kinds)) for _ in range(4)]
    return told


class NeedWorthsTest(unittest.TestCase):
    def test_most_worth(self):
        self.assertEqual(MOST_WORTH, 10 ** 30)

    def test_the_very_thing_is_told(self):
        for yard, worths in cases() + [(TWO, GOOD), (ONE, ((-1, MOST, -MOST),))]:
            self.assertIs(need_worths(yard, worths), worths)

    def test_each_fault_is_told_by_its_place(self):
        for thing, place in NO_WORTHS:
            with self.subTest(repr(thing)[:80]), refused(self, BadWorths, place=place):
                need_worths(TWO, thing)

    def test_the_bounds_at_each_place(self):
        for crossing, way in itertools.product(range(40), range(3)):
            for worth, is_good in ((MOST, True), (-MOST, True), (MOST + 1, False), (-MOST - 1, False)):
                three = tuple(worth if at == way else 0 for at in range(3))
                worths = (ZERO,) * crossing + (three,) + (ZERO,) * (39 - crossing)
                if is_good:
                    self.assertIs(need_worths(chain(40), worths), worths)
                else:
                    with refused(self, BadWorths, place=(crossing, way)):
                        need_worths(chain(40), worths)

    def test_crossing_by_crossing(self):
        for crossing in range(39):
            with refused(self, BadWorths, place=(crossing, 2)):
                need_worths(chain(40), (ZERO,) * crossing + ((0, 0, None), None) + (ZERO,) * (38 - crossing))
            with refused(self, BadWorths, place=(crossing,)):
                need_worths(chain(40), (ZERO,) * crossing + (None, (None, 0, 0)) + (ZERO,) * (38 - crossing))

    def test_all_refuse_them_so_behind_the_yard_and_ahead_of_the_rest(self):
        for call, good, bad in (
            (need_worths, (TWO,), []), (row, (TWO,), []),
            (worth_of, (TWO, GOOD), [((0, None), BadSetting((1,)))]), (worth_of, (TWO, GOOD), [(0, BadSetting(()))]),
            (rank, (TWO, GOOD), [(2, OutOfPlace(()))]), (regret, (TWO, GOOD), [(None, OutOfPlace(()))]),
        ):
            for thing, place in NO_WORTHS[::7] + NO_WORTHS[-5:]:
                check_order(self, call, good, [(NO_YARD, BadYard((1,))), (thing, BadWorths(place))] + bad)

    def test_nothing_handed_in_is_changed(self):
        thing = (ZERO, [0, {1: [2]}, 0])
        with refused(self, BadWorths, place=(1,)):
            need_worths(TWO, thing)
        self.assertEqual(thing, (ZERO, [0, {1: [2]}, 0]))


class WorthOfTest(unittest.TestCase):
    def test_by_hand(self):
        self.assertEqual(worth_of(TWO, GOOD, (0, 0)), -3)
        self.assertEqual(worth_of(TWO, GOOD, (2, 2)), 7)
        self.assertEqual(worth_of(ONE, ((5, -6, 7),), (1,)), -6)

    def test_the_bounds(self):
        self.assertEqual(worth_of(chain(40), ((MOST, -MOST, 0),) * 40, (0,) * 40), 40 * MOST)
        self.assertEqual(worth_of(chain(40), ((MOST, -MOST, 0),) * 40, (1,) * 40), -40 * MOST)
        self.assertEqual(worth_of(chain(40), ((MOST, -MOST, 0),) * 40, (0, 1) * 20), 0)

    def test_all_settings_of_whatever_many_rounds(self):
        for yard, worths in cases():
            if len(worths) < 4:
                for setting in all_ways(len(worths)):
                    want = 0
                    for crossing, way in enumerate(setting):
                        want += worths[crossing][way]
                    self.assertEqual(worth_of(yard, worths, setting), want)

    def test_of_no_setting(self):
        for thing, place in (
            (None, ()), ((), ()), ((0,), ()), ((0, 1, 2), ()), ([0, 1], ()), ((0, 3), (1,)), ((None, 0), (0,)),
            ((0, True), (1,)), (("b", "c"), (0,)), ((-1, 9), (0,)),
        ):
            with refused(self, BadSetting, place=place):
                worth_of(TWO, GOOD, thing)


class RankTest(unittest.TestCase):
    def test_by_hand(self):
        for three, want in (
            ((1, 2, 3), (2, 1, 0)), ((3, 2, 1), (0, 1, 2)), ((2, 3, 1), (1, 0, 2)), ((0, 0, 0), (0, 1, 2)),
            ((1, 1, 0), (0, 1, 2)), ((0, 1, 1), (1, 2, 0)), ((1, 0, 1), (0, 2, 1)), ((0, 0, 1), (2, 0, 1)),
            ((0, 1, 0), (1, 0, 2)), ((-1, 0, -1), (1, 0, 2)), ((-MOST, MOST, -MOST), (1, 0, 2)),
            ((MOST - 1, -MOST, MOST), (2, 0, 1)), ((-MOST, -MOST, 1 - MOST), (2, 0, 1)),
        ):
            self.assertEqual(rank(ONE, (three,), 0), want)

    def test_regret_by_hand(self):
        for three, want in (
            ((1, 2, 4), 2), ((4, 2, 1), 2), ((0, 0, 0), 0), ((5, 5, 1), 0), ((-5, 1, 1), 0), ((-3, -1, -9), 2),
            ((-MOST, MOST, -MOST), 2 * MOST), ((MOST, MOST - 1, -MOST), 1), ((MOST, MOST, MOST), 0),
        ):
            self.assertEqual(regret(ONE, (three,), 0), want)

    def test_worths_fall_and_alike_ones_rise(self):
        for yard, worths in cases():
            for crossing, three in enumerate(worths):
                told = rank(yard, worths, crossing)
                self.assertIs(type(told), tuple)
                self.assertEqual(sorted(told), [0, 1, 2])
                for one, other in ((told[0], told[1]), (told[1], told[2])):
                    self.assertTrue(three[one] > three[other] or three[one] == three[other] and one < other)
                self.assertEqual(regret(yard, worths, crossing), sorted(three)[2] - sorted(three)[1])

    def test_of_what_is_no_crossing(self):
        for crossing in anything() + [2, "0", "a"]:
            for call in (rank, regret):
                with self.subTest(repr(crossing)[:80]), refused(self, OutOfPlace, place=()):
                    call(TWO, GOOD, crossing)
        for call in (rank, regret):
            with refused(self, OutOfPlace, place=()):
                call(chain(40), (ZERO,) * 40, 40)


class RowTest(unittest.TestCase):
    def test_by_hand(self):
        self.assertEqual(row(ONE, (ZERO,)), (0,))
        self.assertEqual(row(TWO, GOOD), (1, 0))
        self.assertEqual(row(chain(4), ((0, 0, 1), (9, 9, 9), (-5, -6, -7), (0, 2, 0))), (3, 0, 2, 1))
        self.assertEqual(row(chain(40), (ZERO,) * 40), tuple(range(40)))

    def test_regrets_fall_and_alike_ones_rise(self):
        for yard, worths in cases():
            told = row(yard, worths)
            self.assertIs(type(told), tuple)
            self.assertEqual(sorted(told), list(range(len(worths))))
            regrets = [sorted(worths[crossing])[2] - sorted(worths[crossing])[1] for crossing in told]
            for at in range(len(told) - 1):
                self.assertGreaterEqual(regrets[at], regrets[at + 1])
                if regrets[at] == regrets[at + 1]:
                    self.assertLess(told[at], told[at + 1])


class InterfaceTest(unittest.TestCase):
    def test_names_and_arguments(self):
        check_interface(self, worths_file, (
            ("need_worths", "yard, thing"), ("worth_of", "yard, worths, setting"), ("rank", "yard, worths, crossing"),
            ("regret", "yard, worths, crossing"), ("row", "yard, worths"),
        ))


if __name__ == "__main__":
    unittest.main()
