import random
import unittest

from oneround import drafts
from oneround.drafts import (
    MOST_OPEN, barred, can_be_one, closed, filled, need_draft, ones, pieces, seams,
)
from oneround.errors import BadDraft, BadYard, NeverOne, TooMany
from oneround.rounds import rounds_of
from tests.samples import (
    HUGE, TWO, all_ways, all_yards, anything, chain, changed, check_interface, check_order, holds, of_one_round,
    open_ones, parts, refused, some_ways, some_yards, tours, ways_place,
)

ONE = ((0, 1), (2, 3))
NO_YARD = (ONE[0], ONE[0])
KINDS = (0, 1, 2, None)

SMALL = all_yards(1) + all_yards(2)[::2] + all_yards(3)[::300]
LARGE = some_yards(41, (5, 8, 21, 40)) + [chain(40)]

CALLS = (seams, closed, pieces, can_be_one, barred, filled)


def small_cases():
    """All DRAFTS of small YARDS, some of YARDS of four and five crossings."""
    rng = random.Random(42)
    told = [(yard, draft) for yard in SMALL for draft in all_ways(len(yard) // 2, KINDS)]
    some = some_yards(43, (4, 4, 5))
    return told + [(yard, some_ways(len(yard) // 2, rng, KINDS)) for yard in some for _ in range(20)]


def large_cases():
    """DRAFTS of larger YARDS: all OPEN, few, many and no crossings OPEN."""
    rng = random.Random(44)
    told = [(yard, (way,) * (len(yard) // 2)) for yard in LARGE for way in (None, 0, 1)]
    for yard in LARGE:
        for kinds in (KINDS, (None, None, None, 1), (0, 0, 1, 1, 2, 2, None), (0, 1, 2)):
            told += [(yard, some_ways(len(yard) // 2, rng, kinds)) for _ in range(3)]
    return told


def some_that_can(seed):
    """DRAFTS of larger YARDS that CAN be one round, crossings joined until that would bar it."""
    rng = random.Random(seed)
    told = []
    for yard in LARGE:
        draft = (None,) * (len(yard) // 2)
        for crossing in rng.sample(range(len(draft)), len(draft)):
            tried = changed(draft, crossing, rng.randrange(3))
            if len(holds(yard, tried)) == 1:
                draft = tried
                if rng.randrange(8) == 0 or None not in draft:
                    told.append((yard, draft))
    return told


CAN_LARGE = some_that_can(45)


def parts_by_open(yard, draft):
    """SEAMS and the ENDS of what is CLOSED: parts of joined ENDS that have two loose ones, or none."""
    told = tours(yard, draft)
    loose = [tuple(end for end in ends if draft[end // 4] is None) for ends in told]
    return tuple(sorted(pair for pair in loose if pair)), [ends for ends, pair in zip(told, loose) if not pair]


def pieces_by_parts(yard, draft):
    links = [(low // 4, high // 4) for low, high in parts_by_open(yard, draft)[0]]
    return tuple(sorted(tuple(sorted(part)) for part in parts(open_ones(draft), links)))


class NeedDraftTest(unittest.TestCase):
    def test_the_very_thing_is_told(self):
        for yard in SMALL[::20] + LARGE:
            for draft in [(0, None, 1, 2) * 10, (None,) * 40, (2,) * 40]:
                draft = draft[:len(yard) // 2]
                self.assertIs(need_draft(yard, draft), draft)

    def test_each_fault_is_told_by_its_place(self):
        for thing, place in (
            (None, ()), ((), ()), ((None,), ()), ((None,) * 3, ()), ([None, None], ()), ("--", ()), ({}, ()),
            ((3, None), (0,)), ((None, 3), (1,)), ((None, -1), (1,)), ((False, None), (0,)), ((0, True), (1,)),
            ((None, HUGE), (1,)), ((None, "-"), (1,)), ((None, [None]), (1,)), (((), ()), (0,)),
        ):
            with self.subTest(repr(thing)[:80]), refused(self, BadDraft, place=place):
                need_draft(TWO, thing)

    def test_of_what_is_of_another_kind(self):
        for thing in anything():
            for many in (1, 2, 3, 40):
                place = ways_place(thing, many, KINDS)
                if place is None:
                    self.assertIs(need_draft(chain(many), thing), thing)
                else:
                    with refused(self, BadDraft, place=place):
                        need_draft(chain(many), thing)

    def test_all_refuse_it_so_behind_the_yard(self):
        for thing, place in ((None, ()), ([None, None], ()), ((None, 3), (1,)), ((True, None), (0,))):
            for call in CALLS + (need_draft,):
                check_order(self, call, (TWO,), [(NO_YARD, BadYard((1,))), (thing, BadDraft(place))])
                check_order(self, call, (TWO,), [(None, BadYard(())), (thing, BadDraft(place))])


class SeamsTest(unittest.TestCase):
    def test_by_hand(self):
        self.assertEqual(seams(ONE, (None,)), ONE)
        self.assertEqual(seams(ONE, (1,)), ())
        self.assertEqual(seams(TWO, (None, 0)), ((0, 1), (2, 3)))
        self.assertEqual(seams(TWO, (2, None)), ((4, 7), (5, 6)))
        self.assertEqual(seams(chain(3), (None, 1, None)), ((0, 1), (2, 8), (3, 9), (10, 11)))

    def test_of_all_open_they_are_the_lines(self):
        for yard in SMALL + LARGE:
            self.assertEqual(seams(yard, (None,) * (len(yard) // 2)), yard)

    def test_against_parts(self):
        for yard, draft in small_cases() + large_cases() + CAN_LARGE:
            told = seams(yard, draft)
            self.assertEqual(told, parts_by_open(yard, draft)[0])
            self.assertEqual({type(told)} | {type(pair) for pair in told}, {tuple})


class ClosedTest(unittest.TestCase):
    def test_by_hand(self):
        self.assertEqual(closed(ONE, (None,)), ())
        self.assertEqual(closed(ONE, (0,)), ((0,), (2,)))
        self.assertEqual(closed(chain(3), (0, None, 0)), ((0,), (10,)))
        self.assertEqual(closed(chain(3), (0, 0, None)), ((0,), (2, 5)))
        self.assertEqual(closed(TWO, (0, 1)), ((0, 6, 3, 5),))

    def test_against_parts_and_as_rounds_are(self):
        for yard, draft in small_cases() + large_cases() + CAN_LARGE:
            told = closed(yard, draft)
            fars = dict(yard) | {high: low for low, high in yard}
            both = [sorted(ends + tuple(fars[end] for end in ends)) for ends in told]
            self.assertEqual(both, parts_by_open(yard, draft)[1])
            self.assertIs(type(told), tuple)
            # Whatever the OPEN crossings get, these ROUNDS are there, told alike.
            for way in range(3):
                all_rounds = rounds_of(yard, tuple(way if old is None else old for old in draft))
                self.assertEqual([ends for ends in all_rounds if ends in told], list(told))

    def test_of_no_open_crossing_they_are_all_rounds(self):
        for yard in SMALL + LARGE:
            setting = ((0, 2, 1) * 14)[:len(yard) // 2]
            self.assertEqual(closed(yard, setting), rounds_of(yard, setting))


class PiecesTest(unittest.TestCase):
    def test_by_hand(self):
        self.assertEqual(pieces(ONE, (None,)), ((0,),))
        self.assertEqual(pieces(ONE, (0,)), ())
        self.assertEqual(pieces(chain(3), (None, 0, None)), ((0,), (2,)))
        self.assertEqual(pieces(chain(3), (None, 1, None)), ((0, 2),))
        self.assertEqual(pieces(chain(5), (None, None, 0, None, None)), ((0, 1), (3, 4)))

    def test_against_parts(self):
        for yard, draft in small_cases() + large_cases() + CAN_LARGE:
            told = pieces(yard, draft)
            self.assertEqual(told, pieces_by_parts(yard, draft))
            self.assertEqual({type(told)} | {type(part) for part in told}, {tuple})

    def test_of_all_open_there_is_one(self):
        for yard in SMALL + LARGE:
            many = len(yard) // 2
            self.assertEqual(pieces(yard, (None,) * many), (tuple(range(many)),))


class CanBeOneTest(unittest.TestCase):
    def test_where_some_setting_of_one_round_fills_it(self):
        for yard, draft in small_cases():
            self.assertIs(can_be_one(yard, draft), of_one_round(yard, draft) != ())

    def test_where_nothing_is_closed_and_there_is_one_piece_or_one_round_alone(self):
        for yard, draft in small_cases() + large_cases() + CAN_LARGE:
            apart = parts_by_open(yard, draft)[1]
            if open_ones(draft):
                want = not apart and len(pieces_by_parts(yard, draft)) == 1
            else:
                want = len(apart) == 1
            self.assertIs(can_be_one(yard, draft), want)

    def test_both_come_of_large_ones_too(self):
        told = [can_be_one(yard, draft) for yard, draft in large_cases()]
        self.assertGreater(told.count(True), 10)
        self.assertGreater(told.count(False), 10)
        self.assertGreater(len(CAN_LARGE), 10)


class BarredTest(unittest.TestCase):
    def test_by_hand(self):
        self.assertEqual(barred(ONE, (None,)), {0: 0})
        self.assertEqual(barred(ONE, (1,)), {})
        self.assertEqual(barred(TWO, (None, None)), {})
        self.assertEqual(barred(TWO, (None, 2)), {0: 2})
        self.assertEqual(barred(chain(3), (None, None, None)), {0: 0, 1: 0, 2: 0})
        self.assertEqual(barred(((0, 4), (1, 7), (2, 3), (5, 6)), (None, None)), {0: 0, 1: 2})

    def test_the_ways_by_which_none_of_one_round_fills_it(self):
        for yard, draft in small_cases():
            all_of_one = of_one_round(yard, draft)
            if all_of_one:
                told = barred(yard, draft)
                want = {}
                for crossing in open_ones(draft):
                    ways = {setting[crossing] for setting in all_of_one}
                    self.assertGreaterEqual(len(ways), 2)
                    if len(ways) == 2:
                        want[crossing] = 3 - sum(ways)
                self.assertEqual(list(told.items()), list(want.items()))

    def test_large_ones(self):
        for yard, draft in CAN_LARGE + [(yard, (None,) * (len(yard) // 2)) for yard in LARGE]:
            want = {}
            for crossing in open_ones(draft):
                for way in range(3):
                    if len(holds(yard, changed(draft, crossing, way))) > 1:
                        self.assertNotIn(crossing, want)
                        want[crossing] = way
            self.assertEqual(list(barred(yard, draft).items()), list(want.items()))

    def test_a_new_dict_each_time(self):
        told = barred(ONE, (None,))
        told[0] = told[7] = 9
        self.assertEqual(barred(ONE, (None,)), {0: 0})
        self.assertIs(type(told), dict)

    def test_of_one_that_can_not_be_one_round(self):
        refusals = 0
        for yard, draft in small_cases() + large_cases():
            with_first = holds(yard, draft)[0]
            if len(with_first) < 2 * len(yard):
                refusals += 1
                for call in (barred, filled):
                    with refused(self, NeverOne, split=tuple(with_first)):
                        call(yard, draft)
        self.assertGreater(refusals, 100)

    def test_the_split_that_is_told_by_hand(self):
        for call in (barred, filled):
            with refused(self, NeverOne, split=(0, 1)):
                call(ONE, (0,))
            with refused(self, NeverOne, split=(0, 3, 4, 7)):
                call(TWO, (2, 2))
            with refused(self, NeverOne, split=(0, 1, 2, 3, 4, 5)):
                call(chain(3), (None, 0, None))


class FilledTest(unittest.TestCase):
    def test_by_hand(self):
        self.assertEqual(filled(ONE, (None,)), (1,))
        self.assertEqual(filled(((0, 2), (1, 3)), (None,)), (0,))
        self.assertEqual(filled(ONE, (2,)), (2,))
        self.assertEqual(filled(TWO, (None, None)), (0, 1))
        self.assertEqual(filled(chain(40), (None,) * 40), (1,) * 40)

    def test_the_first_of_one_round(self):
        for yard, draft in small_cases():
            all_of_one = of_one_round(yard, draft)
            if all_of_one:
                told = filled(yard, draft)
                self.assertEqual(told, all_of_one[0])
                self.assertIs(type(told), tuple)

    def test_large_ones(self):
        for yard, draft in CAN_LARGE + [(yard, (None,) * (len(yard) // 2)) for yard in LARGE]:
            want = draft
            for crossing in open_ones(draft):
                three = [changed(want, crossing, way) for way in range(3)]
                want = [tried for tried in three if len(holds(yard, tried)) == 1][0]
            self.assertEqual(filled(yard, draft), want)
            self.assertEqual(len(tours(yard, want)), 1)


class OnesTest(unittest.TestCase):
    def test_by_hand(self):
        self.assertEqual(MOST_OPEN, 9)
        self.assertEqual(ones(ONE), 2)
        self.assertEqual(ones(ONE, draft=None), 2)
        self.assertEqual(ones(ONE, draft=(0,)), 0)
        self.assertEqual(ones(ONE, draft=(1,)), 1)
        self.assertEqual(ones(chain(9)), 2 ** 9)
        self.assertEqual(ones(TWO, draft=(None, 0)), 2)

    def test_how_many_of_one_round_fill_it(self):
        for yard, draft in small_cases():
            self.assertEqual(ones(yard, draft=draft), len(of_one_round(yard, draft)))

    def test_of_all_open_where_none_is_told(self):
        for yard in SMALL + some_yards(46, (4, 5, 6, 9)):
            many = len(yard) // 2
            told = ones(yard)
            self.assertEqual(told, ones(yard, draft=None))
            self.assertEqual(told, ones(yard, draft=(None,) * many))
            if many < 7:
                self.assertEqual(told, len(of_one_round(yard, (None,) * many)))

    def test_as_many_as_of_three_with_ways_at_an_open_crossing_together(self):
        rng = random.Random(47)
        for yard in LARGE + some_yards(48, (9, 9)):
            many = len(yard) // 2
            left = rng.sample(range(many), min(many, 9))
            draft = tuple(None if crossing in left else rng.randrange(3) for crossing in range(many))
            for crossing in left:
                three = [ones(yard, draft=changed(draft, crossing, way)) for way in range(3)]
                self.assertEqual(ones(yard, draft=draft), sum(three))
        for yard, draft in CAN_LARGE:
            if 0 < len(open_ones(draft)) < 10:
                three = [ones(yard, draft=changed(draft, open_ones(draft)[-1], way)) for way in range(3)]
                self.assertEqual(ones(yard, draft=draft), sum(three))
                self.assertGreater(sum(three), 0)

    def test_few_open_ones_of_large_yards(self):
        for yard, draft in CAN_LARGE:
            if len(open_ones(draft)) < 5:
                self.assertEqual(ones(yard, draft=draft), len(of_one_round(yard, draft)))

    def test_more_than_nine_open_ones(self):
        for many in (10, 11, 40):
            with refused(self, TooMany, many=many):
                ones(chain(many))
            with refused(self, TooMany, many=many):
                ones(chain(many), draft=(None,) * many)
        with refused(self, TooMany, many=10):
            ones(chain(40), draft=(1,) * 30 + (None,) * 10)
        self.assertEqual(ones(chain(40), draft=(1,) * 31 + (None,) * 9), 2 ** 9)
        self.assertEqual(ones(chain(40), draft=(1,) * 40), 1)

    def test_more_than_nine_whether_it_can_be_one_round_or_not(self):
        draft = (None,) * 5 + (0,) + (None,) * 5
        self.assertIs(can_be_one(chain(11), draft), False)
        with refused(self, TooMany, many=10):
            ones(chain(11), draft=draft)
        self.assertEqual(ones(chain(10), draft=draft[1:]), 0)

    def test_behind_yard_and_draft(self):
        def call(yard, draft):
            ones(yard, draft=draft)

        many = (None,) * 11
        for thing, place in ((many + (3,), (11,)), ((True,) + many, (0,)), (list(many), ()), (many, ()), (0, ())):
            check_order(self, call, (chain(12),), [(NO_YARD, BadYard((1,))), (thing, BadDraft(place))])
        with refused(self, BadYard, place=()):
            ones(None)
        with refused(self, BadYard, place=()):
            ones(chain(41))

    def test_draft_is_taken_by_its_name_alone(self):
        with self.assertRaises(TypeError):
            ones(ONE, (None,))


class InterfaceTest(unittest.TestCase):
    def test_names_and_arguments(self):
        rows = [(call.__name__, "yard, draft") for call in CALLS]
        check_interface(self, drafts, rows + [("need_draft", "yard, thing"), ("ones", "yard, *, draft=None")])


if __name__ == "__main__":
    unittest.main()
