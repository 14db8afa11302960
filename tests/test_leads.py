import random
import unittest

from oneround import leads
from oneround.errors import BadLead, BadSetting, BadTurn, BadYard
from oneround.leads import change, check_lead, first_lead, need_turn, turned
from tests.samples import (
    HUGE, TWO, all_ways, all_yards, anything, chain, changed, check_interface, check_order, nest_of_itself, refused,
    some_ways, some_yards, tours,
)

ONE = ((0, 1), (2, 3))
NO_YARD = (ONE[0], ONE[0])

# (a thing that is no TURN of a YARD of two crossings, the place)
NO_TURNS = (
    [(thing, ()) for thing in anything() if type(thing) is not tuple or len(thing) != 2]
    + [(thing, ()) for thing in ([0, 1], (0, 1, 2), (0,), "01", {0: 1, 1: 2}, [(0, 1)], nest_of_itself())]
    + [((crossing, 0), (0,)) for crossing in anything() + [2, 40, "0"]]
    + [((crossing, 3), (0,)) for crossing in (2, -1, None, True)]
    + [((1, way), (1,)) for way in anything() + [3, "b"]]
)


def rounds(yard, setting):
    return len(tours(yard, setting))


def met_twice(yard, setting, crossing):
    four = range(4 * crossing, 4 * crossing + 4)
    return len([ends for ends in tours(yard, setting) if any(end in ends for end in four)]) == 2


def lead_by_words(yard, setting):
    """The FIRST LEAD, each TURN looked for among all."""
    lead = []
    many = rounds(yard, setting)
    while many > 1:
        crossing = [at for at in range(len(setting)) if met_twice(yard, setting, at)][0]
        way = [way for way in range(3) if rounds(yard, changed(setting, crossing, way)) == many - 1][0]
        lead.append((crossing, way))
        setting = changed(setting, crossing, way)
        many -= 1
    return tuple(lead)


def cases():
    rng = random.Random(31)
    small = all_yards(1) + all_yards(2) + all_yards(3)[::400]
    told = [(yard, setting) for yard in small for setting in all_ways(len(yard) // 2)]
    large = some_yards(32, (6, 13, 40)) + [chain(40)]
    return told + [(yard, some_ways(len(yard) // 2, rng, kinds)) for yard in large for kinds in ((0,), (0, 1, 2))]


class NeedTurnTest(unittest.TestCase):
    def test_the_very_thing_is_told(self):
        for yard in (ONE, TWO, chain(40)):
            for crossing in range(len(yard) // 2):
                for way in range(3):
                    turn = (crossing, way)
                    self.assertIs(need_turn(yard, turn), turn)

    def test_each_fault_is_told_by_its_place(self):
        for thing, place in NO_TURNS:
            with self.subTest(repr(thing)[:80]), refused(self, BadTurn, place=place):
                need_turn(TWO, thing)
        with refused(self, BadTurn, place=(0,)):
            need_turn(chain(40), (40, 0))

    def test_all_refuse_it_so_behind_yard_and_setting(self):
        for thing, place in NO_TURNS:
            turn = (thing, BadTurn(place))
            check_order(self, need_turn, (TWO,), [(NO_YARD, BadYard((1,))), turn])
            for call in (turned, change):
                for setting, at in ((None, ()), ((0, 3), (1,))):
                    bad = [(NO_YARD, BadYard((1,))), (setting, BadSetting(at)), turn]
                    check_order(self, call, (TWO, (0, 1)), bad)


class TurnedTest(unittest.TestCase):
    def test_by_hand(self):
        self.assertEqual(turned(ONE, (0,), (0, 2)), (2,))
        self.assertEqual(turned(TWO, (0, 1), (1, 2)), (0, 2))
        self.assertEqual(turned(TWO, (0, 1), (0, 0)), (0, 1))

    def test_that_way_there_alone(self):
        setting = (0, 1, 2) * 13 + (0,)
        for crossing in range(40):
            for way in range(3):
                told = turned(chain(40), setting, (crossing, way))
                self.assertEqual(told, changed(setting, crossing, way))
                self.assertIs(type(told), tuple)


class ChangeTest(unittest.TestCase):
    def test_by_hand(self):
        self.assertEqual([change(ONE, (0,), (0, way)) for way in range(3)], [0, -1, -1])
        self.assertEqual([change(ONE, (1,), (0, way)) for way in range(3)], [1, 0, 0])

    def test_how_many_rounds_more(self):
        for yard, setting in cases()[::2]:
            many = rounds(yard, setting)
            for crossing in range(0, len(setting), 1 + len(setting) // 8):
                told = [change(yard, setting, (crossing, way)) for way in range(3)]
                self.assertEqual(told, [rounds(yard, changed(setting, crossing, way)) - many for way in range(3)])
                self.assertIn(sorted(told), ([-1, -1, 0], [0, 0, 1]))


class FirstLeadTest(unittest.TestCase):
    def test_by_hand(self):
        self.assertEqual(first_lead(ONE, (0,)), ((0, 1),))
        self.assertEqual(first_lead(ONE, (1,)), ())
        self.assertEqual(first_lead(((0, 2), (1, 3)), (1,)), ((0, 0),))
        self.assertEqual(first_lead(chain(3), (0, 0, 0)), ((0, 1), (1, 1), (2, 1)))
        self.assertEqual(first_lead(TWO, (2, 2)), ((0, 0),))

    def test_against_the_words(self):
        for yard, setting in cases():
            told = first_lead(yard, setting)
            self.assertEqual(told, lead_by_words(yard, setting))
            self.assertEqual(len(told), rounds(yard, setting) - 1)
            self.assertIsNone(check_lead(yard, setting, told))

    def test_most_rounds(self):
        self.assertEqual(first_lead(chain(40), (0,) * 40), tuple((crossing, 1) for crossing in range(40)))


class CheckLeadTest(unittest.TestCase):
    def test_any_lead_is_one(self):
        for lead in (((2, 2), (0, 1), (1, 2)), ((1, 1), (0, 2), (2, 1))):
            self.assertIsNone(check_lead(chain(3), (0, 0, 0), lead))
        self.assertIsNone(check_lead(ONE, (2,), ()))

    def test_all_tuples_of_turns(self):
        yard, setting = chain(2), (0, 0)
        turns = [(crossing, way) for crossing in range(2) for way in range(3)]
        for one in turns:
            for other in turns:
                first = changed(setting, *one)
                second = changed(first, *other)
                at = [rounds(yard, ways) for ways in (setting, first, second)]
                place = (0,) if at[1] != at[0] - 1 else (1,) if at[2] != at[1] - 1 else None
                if place is None:
                    self.assertIsNone(check_lead(yard, setting, (one, other)))
                else:
                    with refused(self, BadLead, place=place):
                        check_lead(yard, setting, (one, other))

    def test_of_what_is_no_tuple_of_as_many_things(self):
        for lead in anything() + [((0, 1),), ((0, 1), (1, 1)), [(0, 1), (1, 1), (2, 1)], ((0, 1),) * 4]:
            with self.subTest(repr(lead)[:80]), refused(self, BadLead, place=()):
                check_lead(chain(3), (0, 0, 0), lead)
        for lead in [thing for thing in anything() if thing != ()] + [[], ((0, 0),)]:
            with refused(self, BadLead, place=()):
                check_lead(ONE, (1,), lead)

    def test_of_what_is_no_turn(self):
        for thing, _ in NO_TURNS:
            with self.subTest(repr(thing)[:80]):
                with refused(self, BadLead, place=(0,)):
                    check_lead(chain(2), (0, 0), (thing, thing))
                with refused(self, BadLead, place=(1,)):
                    check_lead(chain(2), (0, 0), ((0, 1), thing))

    def test_what_is_no_turn_is_told_ahead_of_what_makes_no_round_less(self):
        with refused(self, BadLead, place=(2,)):
            check_lead(chain(3), (0, 0, 0), ((0, 0), (0, 0), (3, 0)))

    def test_the_first_that_does_not_make_one_round_less(self):
        for lead, place in (
            (((0, 0), (1, 1), (2, 1)), (0,)), (((0, 1), (0, 2), (2, 1)), (1,)), (((0, 1), (1, 1), (1, 0)), (2,)),
            (((2, 1), (1, 1), (2, 2)), (2,)),
        ):
            with refused(self, BadLead, place=place):
                check_lead(chain(3), (0, 0, 0), lead)

    def test_behind_yard_and_setting(self):
        for setting, at in ((None, ()), ((0, True), (1,))):
            bad = [(NO_YARD, BadYard((1,))), (setting, BadSetting(at)), (None, BadLead(()))]
            check_order(self, check_lead, (TWO, (0, 1)), bad)
        check_order(self, first_lead, (TWO,), [(None, BadYard(())), ((0, 3), BadSetting((1,)))])

    def test_nothing_handed_in_is_changed(self):
        lead = ([0, 1], [[1], 1])
        with refused(self, BadLead, place=(0,)):
            check_lead(chain(2), (0, 0), lead)
        self.assertEqual(lead, ([0, 1], [[1], 1]))


class InterfaceTest(unittest.TestCase):
    def test_names_and_arguments(self):
        check_interface(self, leads, (
            ("need_turn", "yard, thing"), ("turned", "yard, setting, turn"), ("change", "yard, setting, turn"),
            ("first_lead", "yard, setting"), ("check_lead", "yard, setting, lead"),
        ))


if __name__ == "__main__":
    unittest.main()
