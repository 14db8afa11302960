import itertools
import random
import unittest

from oneround import splices
from oneround.drafts import barred, ones
from oneround.errors import BadTwins, BadYard, OutOfPlace, TooMany
from oneround.rounds import many_rounds, rounds_of
from oneround.splices import parted, spliced, twins
from oneround.yards import is_yard
from tests.samples import (
    HUGE, JOINED, TWO, all_ways, all_yards, anything, chain, check_interface, check_order, nest_of_itself, parts,
    refused, some_ways, some_yards, up,
)

ONE = ((0, 1), (2, 3))
NO_YARD = (ONE[0], ONE[0])
APART = ONE + ((4, 5), (6, 7))

# Its LINES 0 and 1 are TWINS, and no others.
BACK = ((0, 4), (1, 5), (2, 3), (6, 7))

SMALL = all_yards(1) + all_yards(2) + all_yards(3)[::100]
LARGE = some_yards(71, (4, 6, 11, 25, 40)) + [chain(40)]


def holds(yard, gone):
    """The crossings, parted by LINES without some; each part rising, all rising."""
    links = [(low // 4, high // 4) for number, (low, high) in enumerate(yard) if number not in gone]
    return sorted(sorted(part) for part in parts(range(len(yard) // 2), links))


def pairs_that_part(yard):
    pairs = itertools.combinations(range(len(yard)), 2)
    return tuple(pair for pair in pairs if len(holds(yard, pair)) > 1)


def splicings():
    """Rows (YARD, OTHER, LINE, FAR_LINE)."""
    rng = random.Random(72)
    told = []
    for yard in all_yards(1) + all_yards(2)[::9]:
        for other in all_yards(1) + all_yards(2)[::11]:
            told += [(yard, other, *both) for both in itertools.product(range(len(yard)), range(len(other)))]
    for one, two in ((1, 39), (39, 1), (20, 20), (13, 4), (3, 8)):
        for yard, other in zip(some_yards(one, (one,)), some_yards(two, (two,))):
            told += [(yard, other, rng.randrange(len(yard)), rng.randrange(len(other))) for _ in range(4)]
    return told


class SplicedTest(unittest.TestCase):
    def test_by_hand(self):
        self.assertEqual(spliced(ONE, ONE, 0, 0), ((0, 4), (1, 5), (2, 3), (6, 7)))
        self.assertEqual(spliced(ONE, ONE, 1, 0), ((0, 1), (2, 4), (3, 5), (6, 7)))
        self.assertEqual(spliced(ONE, TWO, 0, 3), ((0, 7), (1, 11), (2, 3), (4, 8), (5, 9), (6, 10)))
        self.assertEqual(spliced(TWO, ONE, 3, 1), ((0, 4), (1, 5), (2, 6), (3, 10), (7, 11), (8, 9)))

    def test_two_lines_in_the_place_of_two(self):
        for yard, other, line, far_line in splicings():
            many = len(yard) // 2
            behind = up(other, many)
            (a, b), (c, d) = yard[line], behind[far_line]
            stay = [pair for pair in list(yard) + behind if pair not in ((a, b), (c, d))]
            told = spliced(yard, other, line, far_line)
            self.assertEqual(told, tuple(sorted(stay + [(a, c), (b, d)])))
            self.assertIs(is_yard(told), True)

    def test_rounds_of_both_together_less_one(self):
        rng = random.Random(73)
        for yard, other, line, far_line in splicings():
            one, two = (some_ways(len(lines) // 2, rng, (0, 1, 2)) for lines in (yard, other))
            told = many_rounds(spliced(yard, other, line, far_line), one + two)
            self.assertEqual(told, many_rounds(yard, one) + many_rounds(other, two) - 1)

    def test_ones_multiply(self):
        for yard, other, line, far_line in splicings():
            if len(yard) + len(other) <= 18:
                self.assertEqual(ones(spliced(yard, other, line, far_line)), ones(yard) * ones(other))

    def test_refused_in_order(self):
        bad = [(NO_YARD, BadYard((1,))), (APART, BadYard((4,))), (None, OutOfPlace(())), (None, OutOfPlace(()))]
        check_order(self, spliced, (TWO, ONE, 3, 1), bad)
        check_order(self, spliced, (ONE, TWO, 1, 3), [(None, BadYard(())), (0, BadYard(()))] + bad[2:])

    def test_other_is_refused_as_yard_is(self):
        for thing in anything() + ["0a-0b 0c-0d", [(0, 1), (2, 3)]]:
            place = (0,) if type(thing) is tuple and len(thing) == 2 else ()
            for arguments in ((thing, TWO), (TWO, thing), (chain(40), thing), (thing, thing)):
                with refused(self, BadYard, place=place):
                    spliced(*arguments, None, None)

    def test_more_than_forty_crossings_ahead_of_the_lines(self):
        for one, two in ((40, 1), (1, 40), (40, 40), (21, 20)):
            for lines in ((0, 0), (None, None), (80, True)):
                with refused(self, TooMany, many=one + two):
                    spliced(chain(one), chain(two), *lines)
        self.assertIs(is_yard(spliced(chain(20), chain(20), 39, 0)), True)

    def test_what_is_no_number_of_a_line(self):
        for thing in anything() + ["0", "0a-0b"]:
            for lines in ((thing, 0), (0, thing), (thing, thing)):
                with self.subTest(repr(thing)[:80]), refused(self, OutOfPlace, place=()):
                    spliced(TWO, ONE, *lines)
        for lines in ((4, 0), (0, 2), (0, 3), (-1, 0), (0, -1)):
            with refused(self, OutOfPlace, place=()):
                spliced(TWO, ONE, *lines)
        with refused(self, OutOfPlace, place=()):
            spliced(ONE, TWO, 2, 0)


class TwinsTest(unittest.TestCase):
    def test_by_hand(self):
        self.assertEqual(twins(ONE), ())
        self.assertEqual(twins(TWO), ())
        self.assertEqual(twins(BACK), ((0, 1),))
        self.assertEqual(twins(chain(3)), ((1, 2), (3, 4)))
        ring = ((0, 1), (2, 6), (3, 11), (4, 5), (7, 10), (8, 9))
        self.assertEqual(twins(ring), ((1, 2), (1, 4), (2, 4)))

    def test_against_all_pairs(self):
        for yard in SMALL + LARGE:
            told = twins(yard)
            self.assertEqual(told, pairs_that_part(yard))
            self.assertEqual({type(told)} | {type(pair) for pair in told}, {tuple})

    def test_forty_crossings(self):
        self.assertEqual(twins(chain(40)), tuple((line, line + 1) for line in range(1, 78, 2)))

    def test_what_is_spliced_has_them(self):
        for yard, other, line, far_line in splicings():
            told = spliced(yard, other, line, far_line)
            self.assertIn(self.spliced_at(told, yard, other, line, far_line), twins(told))

    def spliced_at(self, told, yard, other, line, far_line):
        (a, b), (c, d) = yard[line], up(other, len(yard) // 2)[far_line]
        return tuple(sorted((told.index((a, c)), told.index((b, d)))))

    def test_parted_there_it_is_what_it_came_of(self):
        for yard, other, line, far_line in splicings():
            told = spliced(yard, other, line, far_line)
            many, all_many = len(yard) // 2, len(told) // 2
            want = ((yard, tuple(range(many))), (other, tuple(range(many, all_many))))
            self.assertEqual(parted(told, self.spliced_at(told, yard, other, line, far_line)), want)

    def test_a_round_that_has_one_of_two_has_both(self):
        rng = random.Random(75)
        for yard in SMALL[::7] + LARGE:
            for _ in range(4):
                for ends in rounds_of(yard, some_ways(len(yard) // 2, rng, (0, 1, 2))):
                    has = [line[0] in ends or line[1] in ends for line in yard]
                    for line, other in twins(yard):
                        self.assertEqual(has[line], has[other])

    def test_barred_of_all_open_is_what_joins_their_ends(self):
        for yard in SMALL + LARGE:
            many = len(yard) // 2
            if many > 1:
                told = twins(yard)
                line_of = {end: number for number, line in enumerate(yard) for end in line}
                want = {}
                for crossing, way in itertools.product(range(many), range(3)):
                    for one, other in JOINED[way]:
                        both = sorted((line_of[4 * crossing + one], line_of[4 * crossing + other]))
                        if tuple(both) in told:
                            want[crossing] = way
                self.assertEqual(barred(yard, (None,) * many), want)


class PartedTest(unittest.TestCase):
    def test_by_hand(self):
        self.assertEqual(parted(BACK, (0, 1)), ((ONE, (0,)), (ONE, (1,))))
        self.assertEqual(parted(chain(3), (3, 4)), ((chain(2), (0, 1)), (ONE, (2,))))
        ring = ((0, 1), (2, 6), (3, 11), (4, 5), (7, 10), (8, 9))
        self.assertEqual(parted(ring, (1, 2)), ((ONE, (0,)), (((0, 1), (2, 7), (3, 6), (4, 5)), (1, 2))))
        self.assertEqual(parted(ring, (2, 4)), ((((0, 1), (2, 6), (3, 7), (4, 5)), (0, 1)), (ONE, (2,))))
        self.assertEqual(parted(ring, (1, 4)), ((((0, 1), (2, 6), (3, 7), (4, 5)), (0, 2)), (ONE, (1,))))

    def test_each_part_is_a_yard_by_one_line_more(self):
        many = 0
        for yard in SMALL + LARGE:
            for pair in twins(yard)[:60]:
                many += 1
                told = parted(yard, pair)
                self.assertEqual([list(numbers) for _, numbers in told], holds(yard, pair))
                self.assertEqual({type(told)} | {type(part) for part in told}, {tuple})
                self.assertEqual({type(numbers) for _, numbers in told}, {tuple})
                self.assertEqual(told[0][1][0], 0)
                cut = yard[pair[0]] + yard[pair[1]]
                for part, numbers in told:
                    self.assertIs(is_yard(part), True)
                    old = sorted((4 * numbers[low // 4] + low % 4, 4 * numbers[high // 4] + high % 4)
                                 for low, high in part)
                    new = tuple(sorted(end for end in cut if end // 4 in numbers))
                    stay = [line for number, line in enumerate(yard) if number not in pair]
                    self.assertEqual(old, sorted([line for line in stay if line[0] // 4 in numbers] + [new]))
        self.assertGreater(many, 100)

    def test_what_are_no_twins(self):
        things = anything() + [
            (1, 0), (0, 0), (1, 1), [0, 1], (0, 1, 2), (0,), (0, 2), (2, 3), (0, 4), (-4, 1), (-4, -3), (0, -3),
            (True, 0), (False, True), (False, 1), (0, True), ("0", "1"), "01", {0: 1, 1: 0}, ((0, 4), (1, 5)),
            (0, [1]), (None, 1), (0, None), (0, HUGE), (-HUGE, 1), nest_of_itself(), ((0, 1),),
        ]
        for thing in things:
            if type(thing) is not tuple or [repr(part) for part in thing] != ["0", "1"]:
                with self.subTest(repr(thing)[:80]), refused(self, BadTwins, place=()):
                    parted(BACK, thing)

    def test_all_pairs(self):
        for yard in SMALL[::5] + LARGE[:4]:
            told = twins(yard)
            for pair in itertools.product(range(len(yard) + 1), repeat=2):
                if pair in told:
                    self.assertEqual(len(parted(yard, pair)), 2)
                else:
                    with refused(self, BadTwins, place=()):
                        parted(yard, pair)

    def test_one_crossing_has_none(self):
        for yard in all_yards(1):
            with refused(self, BadTwins, place=()):
                parted(yard, (0, 1))

    def test_behind_the_yard(self):
        for thing in (None, [0, 1], (1, 0)):
            check_order(self, parted, (BACK,), [(NO_YARD, BadYard((1,))), (thing, BadTwins(()))])
        for thing in anything():
            place = (0,) if type(thing) is tuple and len(thing) == 2 else ()
            with refused(self, BadYard, place=place):
                twins(thing)

    def test_settings_of_both_parts(self):
        for yard in all_yards(2)[::5] + all_yards(3)[::900]:
            for pair in twins(yard):
                (one, first), (two, second) = parted(yard, pair)
                for setting in all_ways(len(yard) // 2):
                    together = [tuple(setting[crossing] for crossing in numbers) for numbers in (first, second)]
                    told = many_rounds(one, together[0]) + many_rounds(two, together[1]) - 1
                    self.assertEqual(many_rounds(yard, setting), told)


class InterfaceTest(unittest.TestCase):
    def test_names_and_arguments(self):
        check_interface(self, splices, (
            ("spliced", "yard, other, line, far_line"), ("twins", "yard"), ("parted", "yard, pair"),
        ))


if __name__ == "__main__":
    unittest.main()
