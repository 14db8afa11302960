import random
import unittest

from oneround import rounds
from oneround.errors import BadEnd, BadSetting, BadYard, OutOfPlace
from oneround.rounds import many_rounds, meeting, need_setting, outer_way, round_at, rounds_of
from tests.samples import (
    HUGE, JOINED, TWO, all_ways, all_yards, anything, chain, changed, check_interface, check_order, refused,
    some_ways, some_yards, tours, ways_place,
)

ONE = ((0, 1), (2, 3))

SMALL = all_yards(1) + all_yards(2) + all_yards(3)[::150]
LARGE = some_yards(21, (5, 9, 17, 40)) + [chain(40)]

NO_CROSSINGS = anything() + [2, "0", "a"]


def cases():
    """Pairs of a YARD and a SETTING: all of small YARDS, some of larger ones."""
    rng = random.Random(22)
    told = [(yard, setting) for yard in SMALL for setting in all_ways(len(yard) // 2)]
    told += [(yard, some_ways(len(yard) // 2, rng, (0, 1, 2))) for yard in LARGE for _ in range(4)]
    return told + [(yard, (way,) * (len(yard) // 2)) for yard in LARGE for way in range(3)]


def gone_from(yard, setting, start):
    """The ENDS from which one goes on, by the words of the document."""
    fars = dict(yard) | {high: low for low, high in yard}
    ends = []
    end = start
    while not ends or end != start:
        ends.append(end)
        crossing, place = divmod(fars[end], 4)
        pair = [pair for pair in JOINED[setting[crossing]] if place in pair][0]
        end = 4 * crossing + (pair[1] if place == pair[0] else pair[0])
    return tuple(ends)


class NeedSettingTest(unittest.TestCase):
    def test_the_very_thing_is_told(self):
        for yard in SMALL[::10] + LARGE:
            for setting in [(0, 1, 2) * 14, (2,) * 40, (0,) * 40]:
                setting = setting[:len(yard) // 2]
                self.assertIs(need_setting(yard, setting), setting)

    def test_each_fault_is_told_by_its_place(self):
        for thing, place in (
            ((), ()), ((0,), ()), ((0, 1, 2), ()), ([0, 1], ()), ("01", ()), (None, ()), ({0: 0, 1: 1}, ()),
            ((3, 0), (0,)), ((-1, 0), (0,)), ((0, 3), (1,)), ((0, HUGE), (1,)), ((-HUGE, HUGE), (0,)),
            ((None, 0), (0,)), ((0, None), (1,)), ((True, 0), (0,)), ((0, False), (1,)), ((0, "b"), (1,)),
            ((0, (1,)), (1,)), (([], {}), (0,)), ((2, [2]), (1,)),
        ):
            with self.subTest(repr(thing)[:80]), refused(self, BadSetting, place=place):
                need_setting(TWO, thing)

    def test_of_what_is_of_another_kind(self):
        for thing in anything():
            for many in (1, 2, 3, 40):
                place = ways_place(thing, many)
                if place is None:
                    self.assertIs(need_setting(chain(many), thing), thing)
                else:
                    with refused(self, BadSetting, place=place):
                        need_setting(chain(many), thing)

    def test_forty_crossings(self):
        for at in (0, 17, 39):
            with refused(self, BadSetting, place=(at,)):
                need_setting(chain(40), changed((2,) * 40, at, 3))
        for many in (39, 41):
            with refused(self, BadSetting, place=()):
                need_setting(chain(40), (0,) * many)

    def test_all_refuse_it_so_behind_the_yard_and_ahead_of_the_rest(self):
        for call, good, bad in (
            (need_setting, (TWO,), []), (rounds_of, (TWO,), []), (many_rounds, (TWO,), []),
            (round_at, (TWO, (0, 1)), [(8, BadEnd(()))]), (meeting, (TWO, (0, 1)), [(2, OutOfPlace(()))]),
            (outer_way, (TWO, (0, 1)), [(2, OutOfPlace(()))]),
        ):
            for thing, place in ((None, ()), ((0, 1, 2), ()), ((0, True), (1,)), ((None, 1), (0,)), ([0, 1], ())):
                check_order(self, call, good, [(ONE[:1], BadYard(())), (thing, BadSetting(place))] + bad)
                check_order(self, call, good, [((ONE[0],) * 2, BadYard((1,))), (thing, BadSetting(place))] + bad)


class RoundsTest(unittest.TestCase):
    def test_by_hand(self):
        self.assertEqual(rounds_of(ONE, (0,)), ((0,), (2,)))
        self.assertEqual(rounds_of(ONE, (1,)), ((0, 3),))
        self.assertEqual(rounds_of(ONE, (2,)), ((0, 2),))
        self.assertEqual(rounds_of(TWO, (0, 0)), ((0, 5), (2, 7)))
        self.assertEqual(rounds_of(TWO, (0, 1)), ((0, 6, 3, 5),))
        self.assertEqual(rounds_of(TWO, (2, 2)), ((0, 7), (1, 6)))
        self.assertEqual(rounds_of(chain(2), (0, 1)), ((0,), (2, 6, 5)))

    def test_a_round_begins_at_the_least_end_of_its_lines_gone_from_or_come_to(self):
        # The LINE (1, 2) is gone along from 1 alone, (0, 3) from 0.
        self.assertEqual(rounds_of(((0, 3), (1, 2)), (2,)), ((0,), (1,)))
        self.assertEqual(rounds_of(((0, 3), (1, 2)), (0,)), ((0, 2),))

    def test_against_parts_and_against_the_words(self):
        for yard, setting in cases():
            told = rounds_of(yard, setting)
            self.assertEqual({type(told)} | {type(ends) for ends in told}, {tuple})
            self.assertEqual(list(told), sorted(told))
            fars = dict(yard) | {high: low for low, high in yard}
            all_ends = [sorted(ends + tuple(fars[end] for end in ends)) for ends in told]
            self.assertEqual(sorted(all_ends), tours(yard, setting))
            for ends, both in zip(told, all_ends):
                self.assertEqual(ends[0], both[0])
                self.assertEqual(ends, gone_from(yard, setting, ends[0]))
            self.assertEqual(many_rounds(yard, setting), len(told))

    def test_each_line_is_in_just_one_round_and_once(self):
        for yard, setting in cases():
            gone = [end for ends in rounds_of(yard, setting) for end in ends]
            self.assertEqual(sorted(sum(line.count(end) for end in gone) for line in yard), [1] * len(yard))


class RoundAtTest(unittest.TestCase):
    def test_by_each_end_of_its_lines(self):
        for yard, setting in cases()[::3]:
            fars = dict(yard) | {high: low for low, high in yard}
            told = rounds_of(yard, setting)
            for end in range(2 * len(yard)):
                at = [ends for ends in told if end in ends or fars[end] in ends]
                self.assertEqual([round_at(yard, setting, end)], at)

    def test_of_what_is_no_end(self):
        for end in anything() + [8, "0", "0a"]:
            with self.subTest(repr(end)[:80]), refused(self, BadEnd, place=()):
                round_at(TWO, (0, 0), end)
        self.assertEqual(round_at(TWO, (0, 0), 7), (2, 7))
        with refused(self, BadEnd, place=()):
            round_at(chain(40), (0,) * 40, 160)


class MeetingTest(unittest.TestCase):
    def test_by_hand(self):
        self.assertEqual(meeting(ONE, (0,), 0), (0, 1))
        self.assertEqual(meeting(ONE, (1,), 0), (0,))
        self.assertEqual(meeting(chain(3), (0, 0, 0), 1), (1, 2))
        self.assertEqual(meeting(chain(3), (0, 0, 0), 2), (2, 3))

    def test_those_that_have_ends_of_the_crossing(self):
        for yard, setting in cases():
            all_tours = tours(yard, setting)
            for crossing in range(len(setting)):
                four = range(4 * crossing, 4 * crossing + 4)
                # Parts rise by their least END, as ROUNDS do.
                want = tuple(at for at, ends in enumerate(all_tours) if any(end in ends for end in four))
                self.assertEqual(meeting(yard, setting, crossing), want)
                self.assertIn(len(want), (1, 2))

    def test_of_what_is_no_crossing(self):
        for crossing in NO_CROSSINGS:
            with self.subTest(repr(crossing)[:80]), refused(self, OutOfPlace, place=()):
                meeting(TWO, (0, 0), crossing)
        with refused(self, OutOfPlace, place=()):
            meeting(chain(40), (0,) * 40, 40)


class OuterWayTest(unittest.TestCase):
    def test_by_hand(self):
        self.assertEqual([outer_way(ONE, (way,), 0) for way in range(3)], [0, 0, 0])
        self.assertEqual(outer_way(((0, 2), (1, 3)), (0,), 0), 1)
        self.assertEqual(outer_way(((0, 3), (1, 2)), (0,), 0), 2)
        self.assertEqual([outer_way(TWO, (0, way), 0) for way in range(3)], [0, 1, 2])

    def test_it_joins_what_one_comes_to_first(self):
        for yard, setting in cases():
            for crossing in range(len(setting)):
                # With the crossing left unjoined each part that has ENDS of it has two, one of which comes to one.
                told = tours(yard, changed(setting, crossing, None))
                own = [[end - 4 * crossing for end in ends if end // 4 == crossing] for ends in told]
                pairs = tuple(tuple(pair) for pair in sorted(own) if pair)
                self.assertEqual(JOINED[outer_way(yard, setting, crossing)], pairs)

    def test_it_does_not_hang_on_the_way_there(self):
        for yard, setting in cases():
            for crossing in range(len(setting)):
                outer = outer_way(yard, setting, crossing)
                three = [changed(setting, crossing, way) for way in range(3)]
                self.assertEqual([outer_way(yard, other, crossing) for other in three], [outer] * 3)

    def test_by_it_two_rounds_meet_and_there_is_one_more(self):
        for yard, setting in cases()[::2]:
            for crossing in range(len(setting)):
                outer = outer_way(yard, setting, crossing)
                three = [changed(setting, crossing, way) for way in range(3)]
                least = min(many_rounds(yard, other) for other in three)
                for way, other in enumerate(three):
                    self.assertEqual(len(meeting(yard, other, crossing)), 2 if way == outer else 1)
                    self.assertEqual(many_rounds(yard, other), least + (way == outer))

    def test_of_what_is_no_crossing(self):
        for crossing in NO_CROSSINGS:
            with self.subTest(repr(crossing)[:80]), refused(self, OutOfPlace, place=()):
                outer_way(TWO, (0, 0), crossing)


class InterfaceTest(unittest.TestCase):
    def test_names_and_arguments(self):
        check_interface(self, rounds, (
            ("need_setting", "yard, thing"), ("rounds_of", "yard, setting"), ("many_rounds", "yard, setting"),
            ("round_at", "yard, setting, end"), ("meeting", "yard, setting, crossing"),
            ("outer_way", "yard, setting, crossing"),
        ))


if __name__ == "__main__":
    unittest.main()
