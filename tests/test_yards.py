import copy
import inspect
import itertools
import random
import unittest

from oneround import yards
from oneround.errors import BadEnd, BadYard, Barred, OutOfPlace, TooMany
from oneround.yards import (
    MOST_CROSSINGS, crossings, far, far_ends, is_yard, mate, need_yard, put_across, sewn_out, yard_of,
)
from tests.samples import HUGE, JOINED, TWO, all_yards, anything, chain, pairings, refused, sewn, whole

ONE = ((0, 1), (2, 3))
APART = ((0, 1), (2, 3), (4, 5), (6, 7))
THIRD_APART = ((0, 4), (1, 5), (2, 6), (3, 7), (8, 9), (10, 11))

# (what is handed in, the place at which it is no YARD)
FAULTS = (
    [(thing, ()) for thing in ([(0, 1), (2, 3)], (), ((0, 1),), TWO[:3], chain(41), chain(40) + ((160, 161),), "ab")]
    + [((thing, (2, 3)), (0,)) for thing in anything() if thing != (0, 1)]
    + [(((0, 1), thing), (1,)) for thing in anything()]
    + [
        (((0, 1, 2), (2, 3)), (0,)),
        (((0,), (2, 3)), (0,)),
        (((0, 1), "23"), (1,)),
        (((0, True), (2, 3)), (0,)),
        (((False, 1), (2, 3)), (0,)),
        (((0, 1), (2, None)), (1,)),
        (((0, 1), ("c", "d")), (1,)),
        (((0, 1), (2, (3,))), (1,)),
        (((-1, 1), (2, 3)), (0,)),
        (((0, 1), (2, 4)), (1,)),
        (((0, HUGE), (2, 3)), (0,)),
        (((-HUGE, 1), (2, 3)), (0,)),
        (((1, 0), (2, 3)), (0,)),
        (((0, 1), (3, 2)), (1,)),
        (((0, 0), (2, 3)), (0,)),
        (((2, 3), (0, 1)), (1,)),
        (((0, 1), (0, 1)), (1,)),
        (((0, 1), (0, 2)), (1,)),
        (((0, 1), (1, 2)), (1,)),
        (((0, 2), (1, 2)), (1,)),
        (((0, 4), (2, 6), (1, 5), (3, 7)), (2,)),
        (((0, 4), (1, 5), (2, 6), (3, 8)), (3,)),
        (((0, 4), (1, 5), (2, 5), (9, 3)), (2,)),
        (((0, 4), (1, 5), [2, 6], None), (2,)),
        (chain(40)[:79] + ((158, 160),), (79,)),
        (APART, (4,)),
        (THIRD_APART, (6,)),
        (chain(3)[:3] + ((6, 7), (8, 9), (10, 11)), (6,)),
    ]
)


class NeedYardTest(unittest.TestCase):
    def test_the_very_thing_is_told(self):
        for yard in (ONE, ((0, 2), (1, 3)), ((0, 3), (1, 2)), TWO, chain(2), chain(39), chain(40)):
            self.assertIs(need_yard(yard), yard)
            self.assertIs(is_yard(yard), True)

    def test_most_crossings(self):
        self.assertEqual(MOST_CROSSINGS, 40)

    def test_each_fault_is_told_by_its_place(self):
        for thing, place in FAULTS:
            with self.subTest(repr(thing)[:80]):
                with refused(self, BadYard, place=place):
                    need_yard(thing)
                self.assertIs(is_yard(thing), False)

    def test_what_is_of_another_kind(self):
        for thing in anything():
            if not isinstance(thing, tuple) or len(thing) != 2:
                with refused(self, BadYard, place=()):
                    need_yard(thing)
            self.assertIs(is_yard(thing), False)

    def test_how_many_things_there_may_be(self):
        for many in range(0, 90):
            place = (0,) if many in range(2, 81, 2) else ()
            with refused(self, BadYard, place=place):
                need_yard((None,) * many)

    def test_all_pairings_of_two_crossings(self):
        told = [is_yard(lines) for lines in pairings(list(range(8)))]
        self.assertEqual(told, [whole(lines) for lines in pairings(list(range(8)))])
        self.assertEqual((len(told), sum(told)), (105, 96))

    def test_all_pairings_of_three_crossings(self):
        for lines in pairings(list(range(12))):
            self.assertIs(is_yard(lines), whole(lines))

    def test_a_yard_is_refused_ahead_of_all_else_wherever_it_is_handed_in(self):
        calls = (
            crossings, far_ends, lambda thing: far(thing, None), lambda thing: put_across(thing, None, None),
            lambda thing: sewn_out(thing, None, None),
        )
        for thing, place in FAULTS:
            for call in calls:
                with refused(self, BadYard, place=place):
                    call(thing)


class YardOfTest(unittest.TestCase):
    def test_any_order_in_lists_and_tuples(self):
        for lines in itertools.permutations(TWO):
            for turns in itertools.product((1, -1), repeat=4):
                pairs = [line[::turn] for line, turn in zip(lines, turns)]
                self.assertEqual(yard_of(pairs), TWO)
                self.assertEqual(yard_of(tuple([list(pair) for pair in pairs])), TWO)

    def test_what_comes_is_a_tuple_of_tuples(self):
        told = yard_of([[3, 2], [1, 0]])
        self.assertEqual(told, ONE)
        self.assertEqual([type(told), type(told[0]), type(told[1])], [tuple] * 3)

    def test_forty_crossings(self):
        lines = [list(line)[::-1] for line in chain(40)][::-1]
        before = copy.deepcopy(lines)
        self.assertEqual(yard_of(lines), chain(40))
        self.assertEqual(lines, before)

    def test_what_is_no_list_of_pairs_of_unlike_numbers(self):
        things = anything() + [
            TWO[:3], list(TWO[:1]), chain(41), list(chain(41)), {0: 1, 2: 3}, "0123", dict(TWO),
            [[0, 1], [2, 2]], [[0, 1], [2, True]], [[0, False], [2, 3]], [[0, 1], [2, 3, 3]], [[0, 1], [2]],
            [[0, 1], None], [[0, 1], "cd"], [[0, 1], {2: 0, 3: 0}], [[0, 1], [2, None]], [[0, 1], [2, [3]]],
            [[0, 1], [HUGE, HUGE]], [[9, 0], [9, 9]], [[0, 1], [0, "1"]], [[0, 1], range(2, 4)],
        ]
        fitting = (([0, 1], [2, 3]), ((HUGE, 1), (2, 3)))
        for thing in things:
            if thing not in fitting:
                with self.subTest(repr(thing)[:80]), refused(self, BadYard, place=()):
                    yard_of(thing)

    def test_the_first_with_what_is_no_end_or_stands_ahead(self):
        for pairs, place in (
            ([[0, 1], [2, 4]], (1,)),
            ([[0, -1], [2, 3]], (0,)),
            ([[HUGE, 0], [2, 3]], (0,)),
            (((HUGE, 1), (2, 3)), (0,)),
            ([[0, 1], [2, -HUGE]], (1,)),
            ([[2, 3], [3, 1]], (1,)),
            ([[2, 3], [1, 2]], (1,)),
            ([[2, 3], [3, 2]], (1,)),
            ([[3, 7], [6, 2], [5, 6], [8, 0]], (2,)),
            ([[3, 7], [8, 2], [5, 3], [1, 0]], (1,)),
            ([list(line) for line in chain(40)[:79]] + [[160, 158]], (79,)),
        ):
            with self.subTest(pairs), refused(self, BadYard, place=place):
                yard_of(pairs)

    def test_what_is_not_whole(self):
        for lines in (APART, THIRD_APART):
            for pairs in (lines, lines[::-1], [list(line) for line in lines]):
                with refused(self, BadYard, place=(len(lines),)):
                    yard_of(pairs)

    def test_all_yards_of_two_crossings_shuffled(self):
        shuffle = random.Random(4).shuffle
        for yard in all_yards(2):
            pairs = [list(line) for line in yard]
            for pair in pairs:
                shuffle(pair)
            shuffle(pairs)
            self.assertEqual(yard_of(pairs), yard)


class EndsTest(unittest.TestCase):
    def test_crossings(self):
        for many in range(1, 41):
            self.assertEqual(crossings(chain(many)), many)

    def test_far_and_far_ends(self):
        for yard in [ONE, TWO, chain(40)] + all_yards(2):
            fars = {low: high for low, high in yard} | {high: low for low, high in yard}
            told = far_ends(yard)
            self.assertIs(type(told), list)
            self.assertEqual(told, [fars[end] for end in range(2 * len(yard))])
            self.assertEqual([far(yard, end) for end in range(2 * len(yard))], told)

    def test_far_ends_are_a_new_list_each_time(self):
        told = far_ends(TWO)
        told[0] = 99
        self.assertEqual(far_ends(TWO), [4, 5, 6, 7, 0, 1, 2, 3])
        self.assertIsNot(far_ends(TWO), far_ends(TWO))

    def test_far_of_what_is_no_end(self):
        for end in anything() + [8, "0a", "0"]:
            with self.subTest(repr(end)[:80]), refused(self, BadEnd, place=()):
                far(TWO, end)
        self.assertEqual(far(TWO, 7), 3)

    def test_mate(self):
        for crossing in range(40):
            for way, joins in JOINED.items():
                for one, other in joins:
                    self.assertEqual(mate(4 * crossing + one, way), 4 * crossing + other)
                    self.assertEqual(mate(4 * crossing + other, way), 4 * crossing + one)


class PutAcrossTest(unittest.TestCase):
    def test_two_lines(self):
        self.assertEqual(put_across(ONE, 0, 1), ((0, 4), (1, 6), (2, 5), (3, 7)))
        self.assertEqual(put_across(ONE, 1, 0), ((0, 5), (1, 7), (2, 4), (3, 6)))
        self.assertEqual(put_across(TWO, 1, 3), ((0, 4), (1, 8), (2, 6), (3, 9), (5, 10), (7, 11)))

    def test_one_line_twice(self):
        self.assertEqual(put_across(ONE, 0, 0), ((0, 4), (1, 7), (2, 3), (5, 6)))
        self.assertEqual(put_across(ONE, 1, 1), ((0, 1), (2, 4), (3, 7), (5, 6)))

    def test_it_is_a_yard_and_sewn_out_by_way_1_what_it_was(self):
        for yard in [ONE] + all_yards(2) + [chain(39)]:
            many = crossings(yard)
            for line, other in itertools.product(range(len(yard)), repeat=2):
                told = put_across(yard, line, other)
                self.assertIs(is_yard(told), True)
                self.assertEqual(crossings(told), many + 1)
                self.assertEqual(sewn_out(told, many, 1), yard)

    def test_what_is_no_number_of_a_line(self):
        for thing in anything() + [4, "0"]:
            for line, other in ((thing, 0), (0, thing), (thing, thing)):
                with refused(self, OutOfPlace, place=()):
                    put_across(TWO, line, other)

    def test_forty_crossings_are_too_many_ahead_of_lines(self):
        for line, other in ((0, 0), (0, 79), (80, 0), (0, -1), (None, None), (True, "0")):
            with refused(self, TooMany, many=41):
                put_across(chain(40), line, other)
        self.assertEqual(crossings(put_across(chain(39), 77, 0)), 40)


class SewnOutTest(unittest.TestCase):
    def check(self, yard):
        """What is told by each crossing and WAY; how many WAYS are Barred at each crossing."""
        for crossing in range(len(yard) // 2):
            barred = 0
            for way in range(3):
                left = sewn(yard, crossing, way)
                if left is None:
                    barred += 1
                    with refused(self, Barred, way=way):
                        sewn_out(yard, crossing, way)
                else:
                    self.assertEqual(sewn_out(yard, crossing, way), left)
                    self.assertIs(is_yard(left), True)
            self.assertLessEqual(barred, 1)

    def test_by_hand(self):
        self.assertEqual(sewn_out(TWO, 0, 0), ((0, 1), (2, 3)))
        self.assertEqual(sewn_out(TWO, 1, 1), ((0, 2), (1, 3)))
        self.assertEqual(sewn_out(chain(3), 1, 1), ((0, 1), (2, 4), (3, 5), (6, 7)))
        self.assertEqual(sewn_out(chain(3), 0, 2), ((0, 1), (2, 4), (3, 5), (6, 7)))

    def test_along_a_line_that_leads_back(self):
        # Crossing 1 has a LINE from its place b to its place c.
        yard = ((0, 1), (2, 4), (3, 7), (5, 6))
        self.assertEqual(sewn_out(yard, 1, 0), ONE)
        self.assertEqual(sewn_out(yard, 1, 1), ONE)
        with refused(self, Barred, way=2):
            sewn_out(yard, 1, 2)

    def test_barred_where_it_is_not_whole(self):
        with refused(self, Barred, way=0):
            sewn_out(chain(3), 1, 0)

    def test_all_yards_of_two_crossings(self):
        for yard in all_yards(2):
            self.check(yard)

    def test_yards_of_three_crossings(self):
        for yard in all_yards(3)[::5]:
            self.check(yard)

    def test_yards_grown_at_random(self):
        number = random.Random(11).randrange
        for _ in range(12):
            yard = ONE
            while len(yard) < 80:
                yard = put_across(yard, number(len(yard)), number(len(yard)))
                if len(yard) in (8, 20, 50, 80):
                    self.check(yard)

    def test_a_crossing_goes_down_by_one_until_there_is_one(self):
        yard = chain(40)
        while crossings(yard) > 1:
            yard = sewn_out(yard, crossings(yard) // 2, 1)
            self.assertIs(is_yard(yard), True)

    def test_what_is_no_crossing(self):
        for crossing in anything() + [2, "0"]:
            for way in (0, 3, None):
                with refused(self, OutOfPlace, place=()):
                    sewn_out(TWO, crossing, way)

    def test_the_only_crossing(self):
        for way in (0, 1, 2, 3, None):
            with refused(self, OutOfPlace, place=()):
                sewn_out(ONE, 0, way)

    def test_what_is_no_way(self):
        for way in anything() + [3, "b"]:
            with refused(self, OutOfPlace, place=()):
                sewn_out(chain(2), 0, way)


class InterfaceTest(unittest.TestCase):
    def test_names_and_arguments(self):
        for name, arguments in (
            ("need_yard", "thing"), ("is_yard", "thing"), ("yard_of", "pairs"), ("crossings", "yard"),
            ("far", "yard, end"), ("far_ends", "yard"), ("mate", "end, way"), ("put_across", "yard, line, other"),
            ("sewn_out", "yard, crossing, way"),
        ):
            call = getattr(yards, name)
            self.assertEqual(str(inspect.signature(call)), f"({arguments})")
            self.assertEqual(call.__module__, "oneround.yards")


if __name__ == "__main__":
    unittest.main()
