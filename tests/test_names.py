import itertools
import random
import unittest

from oneround import names
from oneround.drafts import barred, can_be_one, closed, ones, pieces, seams
from oneround.errors import BadDraft, BadEnd, BadNames, BadSetting, BadYard
from oneround.names import draft_renamed, ends_renamed, names_back, need_names, renamed, setting_renamed
from oneround.rounds import rounds_of
from oneround.splits import check_split, split_of
from oneround.yards import is_yard
from tests.samples import (
    HUGE, JOINED, TWO, all_ways, all_yards, anything, chain, check_interface, check_order, joins, refused,
    some_names, some_ways, some_yards,
)

ONE = ((0, 1), (2, 3))
NO_YARD = (ONE[0], ONE[0])
KINDS = (0, 1, 2, None)
SAME = tuple(range(8))

# (what is handed in for a YARD of two crossings, the place at which it is no NAMES)
NO_NAMES = (
    [(thing, ()) for thing in anything()]
    + [(thing, ()) for thing in (list(SAME), SAME[:7], SAME + (8,), SAME[:4], "01234567", dict.fromkeys(SAME))]
    + [((thing,) + SAME[1:], (0,)) for thing in anything() + [8, "0", "0a"]]
    + [(SAME[:7] + (thing,), (7,)) for thing in anything() + [8, "7"]]
    + [(SAME[:2] + (thing,) + SAME[3:], (2,)) for thing in (0, 1, 4, 5, 7, 8, -1, True, None)]
    + [
        ((0, 1, 2, 3, 4, 5, 6, 6), (7,)), ((4, 5, 6, 7, 4, 1, 2, 3), (4,)), ((4, 5, 6, 7, 0, 1, 2, 4), (7,)),
        ((0, 4, 1, 5, 2, 6, 3, 7), (1,)), ((0, 1, 2, 4, 3, 5, 6, 7), (3,)), ((0, 0, 8, 9, None, 5, 6, 7), (1,)),
        ((3, 2, 1, 4, 7, 7, 7, 7), (3,)), ((HUGE,) * 8, (0,)), ((7, 6, -HUGE, 4, 0, 1, 2, 3), (2,)),
        ((4, 0, 5, 6, 7, 1, 2, 3), (1,)), ((7, 6, 5, 3, 4, 2, 1, 0), (3,)),
    ]
)


def all_names(many):
    """All NAMES of so many crossings."""
    orders = list(itertools.permutations(range(4)))
    told = []
    for order in itertools.permutations(range(many)):
        for places in itertools.product(orders, repeat=many):
            told.append(tuple(4 * at + place for at, four in zip(order, places) for place in four))
    return told


def cases():
    """Rows (YARD, NAMES, DRAFT)."""
    rng = random.Random(61)
    told = [(yard, called, (way,)) for yard in all_yards(1) for called in all_names(1) for way in KINDS]
    for yard in all_yards(2)[::7] + all_yards(3)[::700]:
        for draft in all_ways(len(yard) // 2, KINDS):
            told.append((yard, some_names(len(yard) // 2, rng), draft))
    for yard in some_yards(62, (5, 8, 23, 40)) + [chain(40)]:
        for kinds in ((None,), KINDS, (None, None, None, 1, 2), (0, 1, 2), (0, 0, 1, 1, 2, 2, None)):
            told.append((yard, some_names(len(yard) // 2, rng), some_ways(len(yard) // 2, rng, kinds)))
    return told


def settings():
    return [(yard, called, draft) for yard, called, draft in cases() if None not in draft]


def called_pairs(called, pairs):
    return sorted(tuple(sorted((called[one], called[other]))) for one, other in pairs)


def line_numbers(yard, ends):
    """The LINES of a ROUND, as pairs."""
    return sorted(line for line in yard if line[0] in ends or line[1] in ends)


class NeedNamesTest(unittest.TestCase):
    def test_the_very_thing_is_told(self):
        for many in (1, 2):
            for called in all_names(many):
                self.assertIs(need_names(chain(many), called), called)
        for yard, called, _ in cases():
            self.assertIs(need_names(yard, called), called)

    def test_each_fault_is_told_by_its_place(self):
        for thing, place in NO_NAMES:
            with self.subTest(repr(thing)[:80]), refused(self, BadNames, place=place):
                need_names(TWO, thing)

    def test_forty_crossings(self):
        back = tuple(range(159, -1, -1))
        self.assertIs(need_names(chain(40), back), back)
        for at in range(160):
            for thing in (None, 160, back[at - 1] if at else -1):
                with refused(self, BadNames, place=(at,)):
                    need_names(chain(40), back[:at] + (thing,) + back[at + 1:])

    def test_all_refuse_them_so_behind_the_yard_and_ahead_of_the_rest(self):
        for call, good, bad in (
            (need_names, (TWO,), []), (names_back, (TWO,), []), (renamed, (TWO,), []),
            (setting_renamed, (TWO, SAME), [((0, None), BadSetting((1,)))]),
            (setting_renamed, (TWO, SAME), [(None, BadSetting(()))]),
            (draft_renamed, (TWO, SAME), [((0, 3), BadDraft((1,)))]),
            (draft_renamed, (TWO, SAME), [(None, BadDraft(()))]),
            (ends_renamed, (TWO, SAME), [([0], BadEnd(()))]),
            (ends_renamed, (TWO, SAME), [((0, 8), BadEnd((1,)))]),
        ):
            for thing, place in NO_NAMES[::5] + NO_NAMES[-11:]:
                check_order(self, call, good, [(NO_YARD, BadYard((1,))), (thing, BadNames(place))] + bad)


class NamesBackTest(unittest.TestCase):
    def test_by_hand(self):
        self.assertEqual(names_back(ONE, (1, 2, 3, 0)), (3, 0, 1, 2))
        self.assertEqual(names_back(TWO, (4, 6, 5, 7, 0, 1, 3, 2)), (4, 5, 7, 6, 0, 2, 1, 3))

    def test_they_undo_them(self):
        for yard, called, draft in cases():
            back = names_back(yard, called)
            self.assertIs(type(back), tuple)
            self.assertEqual([back[name] for name in called], list(range(len(called))))
            self.assertEqual(names_back(yard, back), called)
            self.assertEqual(renamed(renamed(yard, called), back), yard)
            self.assertEqual(draft_renamed(renamed(yard, called), back, draft_renamed(yard, called, draft)), draft)


class RenamedTest(unittest.TestCase):
    def test_by_hand(self):
        self.assertEqual(renamed(ONE, (1, 2, 3, 0)), ((0, 3), (1, 2)))
        self.assertEqual(renamed(chain(2), (4, 5, 6, 7, 0, 1, 2, 3)), ((0, 6), (1, 7), (2, 3), (4, 5)))
        self.assertEqual(renamed(TWO, SAME), TWO)

    def test_lines_so_called(self):
        for yard, called, _ in cases():
            told = renamed(yard, called)
            self.assertEqual(list(told), called_pairs(called, yard))
            self.assertIs(is_yard(told), True)


class WaysRenamedTest(unittest.TestCase):
    def test_by_hand(self):
        self.assertEqual(setting_renamed(ONE, (1, 2, 3, 0), (0,)), (2,))
        self.assertEqual(setting_renamed(ONE, (0, 2, 1, 3), (2,)), (2,))
        self.assertEqual(setting_renamed(TWO, (4, 5, 6, 7, 1, 0, 2, 3), (0, 1)), (2, 0))
        self.assertEqual(draft_renamed(TWO, (4, 5, 6, 7, 1, 0, 2, 3), (None, 1)), (2, None))
        self.assertEqual(draft_renamed(ONE, (3, 0, 1, 2), (None,)), (None,))

    def test_what_was_joined_is_joined(self):
        for yard, called, draft in cases():
            told = draft_renamed(yard, called, draft)
            self.assertEqual(sorted(joins(told)), called_pairs(called, joins(draft)))
            self.assertEqual(told.count(None), draft.count(None))
            self.assertIs(type(told), tuple)
        for yard, called, setting in settings():
            self.assertEqual(setting_renamed(yard, called, setting), draft_renamed(yard, called, setting))

    def test_a_setting_is_all_joined(self):
        for thing, place in (
            (None, ()), ((0,), ()), ([0, 0], ()), ((None, 0), (0,)), ((0, True), (1,)), ((0, 3), (1,)),
        ):
            with refused(self, BadSetting, place=place):
                setting_renamed(TWO, SAME, thing)

    def test_a_draft(self):
        for thing, place in ((None, ()), ((None,), ()), ([None, 0], ()), ((False, 0), (0,)), ((None, -1), (1,))):
            with refused(self, BadDraft, place=place):
                draft_renamed(TWO, SAME, thing)


class EndsRenamedTest(unittest.TestCase):
    def test_by_hand(self):
        self.assertEqual(ends_renamed(ONE, (1, 2, 3, 0), ()), ())
        self.assertEqual(ends_renamed(ONE, (1, 2, 3, 0), (0, 3)), (0, 1))
        self.assertEqual(ends_renamed(ONE, (1, 2, 3, 0), (3, 0, 3, 1)), (0, 0, 1, 2))
        self.assertEqual(ends_renamed(ONE, (1, 2, 3, 0), (2,) * 50), (3,) * 50)

    def test_any_many_in_any_order(self):
        rng = random.Random(63)
        for yard, called, _ in cases()[::4]:
            for many in (1, 3, len(called), 3 * len(called)):
                ends = tuple(rng.randrange(len(called)) for _ in range(many))
                told = ends_renamed(yard, called, ends)
                self.assertEqual(list(told), sorted(called[end] for end in ends))
                self.assertIs(type(told), tuple)

    def test_of_no_tuple(self):
        for thing in anything():
            if type(thing) is not tuple:
                with self.subTest(repr(thing)[:80]), refused(self, BadEnd, place=()):
                    ends_renamed(TWO, SAME, thing)

    def test_of_the_first_thing_that_is_no_end(self):
        for thing in anything() + [8, "0", "0a"]:
            for ahead in ((), (0,), (7, 7, 0)):
                for behind in ((), (1,), (None, 9)):
                    with self.subTest(repr(thing)[:80]), refused(self, BadEnd, place=(len(ahead),)):
                        ends_renamed(TWO, SAME, ahead + (thing,) + behind)


class WhatGoesOverTest(unittest.TestCase):
    def test_rounds_by_their_lines(self):
        for yard, called, setting in settings():
            new_yard = renamed(yard, called)
            told = rounds_of(new_yard, setting_renamed(yard, called, setting))
            want = [called_pairs(called, line_numbers(yard, ends)) for ends in rounds_of(yard, setting)]
            self.assertEqual(sorted(line_numbers(new_yard, ends) for ends in told), sorted(want))

    def test_what_a_draft_has(self):
        for yard, called, draft in cases():
            new_yard, new_draft = renamed(yard, called), draft_renamed(yard, called, draft)
            self.assertEqual(list(seams(new_yard, new_draft)), called_pairs(called, seams(yard, draft)))
            told = [line_numbers(new_yard, ends) for ends in closed(new_yard, new_draft)]
            want = [called_pairs(called, line_numbers(yard, ends)) for ends in closed(yard, draft)]
            self.assertEqual(sorted(told), sorted(want))
            want = [tuple(sorted(called[4 * crossing] // 4 for crossing in part)) for part in pieces(yard, draft)]
            self.assertEqual(list(pieces(new_yard, new_draft)), sorted(want))
            self.assertIs(can_be_one(new_yard, new_draft), can_be_one(yard, draft))
            if draft.count(None) < 10:
                self.assertEqual(ones(new_yard, draft=new_draft), ones(yard, draft=draft))

    def test_splits(self):
        many = 0
        for yard, called, draft in cases():
            split = split_of(yard, draft)
            if split is not None:
                many += 1
                new_split = ends_renamed(yard, called, split)
                new_draft = draft_renamed(yard, called, draft)
                self.assertIsNone(check_split(renamed(yard, called), new_draft, new_split))
        self.assertGreater(many, 20)

    def test_what_is_barred_end_by_end(self):
        for yard, called, draft in cases():
            if can_be_one(yard, draft):
                told = barred(renamed(yard, called), draft_renamed(yard, called, draft))
                want = {}
                for crossing, way in barred(yard, draft).items():
                    four = [called[4 * crossing + place] for place in range(4)]
                    new = tuple(sorted(
                        tuple(sorted((four[one] % 4, four[other] % 4))) for one, other in JOINED[way]
                    ))
                    want[four[0] // 4] = [way for way in range(3) if JOINED[way] == new][0]
                self.assertEqual(told, want)


class InterfaceTest(unittest.TestCase):
    def test_names_and_arguments(self):
        check_interface(self, names, (
            ("need_names", "yard, thing"), ("names_back", "yard, names"), ("renamed", "yard, names"),
            ("setting_renamed", "yard, names, setting"), ("draft_renamed", "yard, names, draft"),
            ("ends_renamed", "yard, names, ends"),
        ))


if __name__ == "__main__":
    unittest.main()
