import itertools
import random
import unittest

from oneround import splits
from oneround.drafts import can_be_one
from oneround.errors import BadDraft, BadSplit, BadYard
from oneround.splits import check_split, split_of
from tests.samples import (
    HUGE, TWO, all_ways, all_yards, anything, chain, check_interface, check_order, holds, refused, some_ways,
    some_yards,
)

ONE = ((0, 1), (2, 3))
NO_YARD = (ONE[0], ONE[0])
KINDS = (0, 1, 2, None)

# Three pieces that stay apart: crossings 0, 2 and 4 OPEN, with crossings between joined so that none passes.
APART = (chain(5), (None, 0, None, 0, None))


def cases():
    rng = random.Random(51)
    small = all_yards(1) + all_yards(2)[::3] + all_yards(3)[::500]
    told = [(yard, draft) for yard in small for draft in all_ways(len(yard) // 2, KINDS)]
    for yard in some_yards(52, (5, 8, 21, 40)) + [chain(40)]:
        for kinds in ((None,), (0,), KINDS, (None, None, None, None, 0), (0, 1, 2)):
            told += [(yard, some_ways(len(yard) // 2, rng, kinds)) for _ in range(3)]
    return told


class SplitOfTest(unittest.TestCase):
    def test_by_hand(self):
        self.assertEqual(split_of(ONE, (0,)), (0, 1))
        self.assertIsNone(split_of(ONE, (1,)))
        self.assertIsNone(split_of(ONE, (None,)))
        self.assertEqual(split_of(*APART), (0, 1, 2, 3, 4, 5))
        self.assertEqual(split_of(TWO, (2, 2)), (0, 3, 4, 7))

    def test_all_ends_to_which_one_comes_from_end_0(self):
        nones = 0
        for yard, draft in cases():
            told = split_of(yard, draft)
            hold = [part for part in holds(yard, draft) if 0 in part][0]
            if len(hold) == 2 * len(yard):
                nones += 1
                self.assertIsNone(told)
            else:
                self.assertEqual(told, tuple(hold))
                self.assertIs(type(told), tuple)
                self.assertIsNone(check_split(yard, draft, told))
            self.assertIs(can_be_one(yard, draft), told is None)
        self.assertGreater(nones, 10)

    def test_refused_behind_the_yard(self):
        for thing, place in ((None, ()), ((None, 3), (1,)), ((True, None), (0,))):
            check_order(self, split_of, (TWO,), [(NO_YARD, BadYard((1,))), (thing, BadDraft(place))])


class CheckSplitTest(unittest.TestCase):
    def test_any_one(self):
        for yard, draft in cases():
            parted = holds(yard, draft)
            for some in range(1, min(len(parted), 4)):
                for chosen in itertools.islice(itertools.combinations(parted, some), 20):
                    self.assertIsNone(check_split(yard, draft, tuple(sorted(sum(chosen, [])))))

    def test_all_tuples_of_ends_of_a_small_yard(self):
        for yard in [ONE] + all_yards(2)[::20]:
            for draft in all_ways(len(yard) // 2, KINDS):
                parted = holds(yard, draft)
                part_of = {end: part for part in parted for end in part}
                ends = range(2 * len(yard))
                near = {end: self.beside(yard, draft, end) for end in ends}
                for many in range(1, len(ends)):
                    for split in itertools.combinations(ends, many):
                        lacking = [at for at, end in enumerate(split) if not near[end] <= set(split)]
                        self.assertEqual(not lacking, all(set(part_of[end]) <= set(split) for end in split))
                        if lacking:
                            with refused(self, BadSplit, place=(lacking[0],)):
                                check_split(yard, draft, split)
                        else:
                            self.assertIsNone(check_split(yard, draft, split))

    def beside(self, yard, draft, end):
        """What has to be with an END at once."""
        told = {other for line in yard if end in line for other in line}
        first = end // 4 * 4
        joined = {
            None: [(0, 1, 2, 3)], 0: [(0, 1), (2, 3)], 1: [(0, 2), (1, 3)], 2: [(0, 3), (1, 2)],
        }[draft[end // 4]]
        return told | {first + place for group in joined if end - first in group for place in group}

    def test_of_what_is_no_tuple_of_so_many_things(self):
        for split in [(), [], [0, 1], "01", None, True, 0, HUGE, {0: 1}, {0, 1}, (0, 1, 2, 3), (0,) * 5, (HUGE,) * 4]:
            with self.subTest(repr(split)[:80]), refused(self, BadSplit, place=()):
                check_split(ONE, (0,), split)
        for thing in anything():
            if type(thing) is not tuple or thing == ():
                with refused(self, BadSplit, place=()):
                    check_split(*APART, thing)
        for split in (tuple(range(20)), (0,) * 20, (None,) * 21):
            with refused(self, BadSplit, place=()):
                check_split(*APART, split)
        with refused(self, BadSplit, place=(19 - 1,)):
            check_split(*APART, tuple(range(18)) + (20,))

    def test_the_first_that_is_no_end(self):
        for thing in anything() + [20, "0", "0a"]:
            for ahead in ((), (0,), (0, 1, 2)):
                for behind in ((), (19,), (None, None)):
                    with self.subTest(repr(thing)[:80]), refused(self, BadSplit, place=(len(ahead),)):
                        check_split(*APART, ahead + (thing,) + behind)

    def test_the_first_that_is_not_above_the_one_ahead(self):
        for split, place in (
            ((1, 0), (1,)), ((0, 0), (1,)), ((0, 1, 3, 2, 4, 5), (3,)), ((0, 1, 2, 3, 5, 4), (5,)),
            ((5, 4, 3), (1,)), ((2, 3, 3, None), (2,)), ((2, 3, None, 3), (2,)),
        ):
            with refused(self, BadSplit, place=place):
                check_split(*APART, split)

    def test_the_first_that_lacks_one(self):
        for split, place in (
            ((0, 1, 2, 3, 4), (3,)), ((0, 1, 2, 3, 5), (2,)), ((0, 1, 2, 3), (2,)), ((0, 1), (0,)),
            ((0, 1, 2, 3, 4, 5, 6), (6,)), ((14, 15, 16, 17, 18), (2,)), ((7, 8, 9, 10, 11, 12, 13), (0,)),
            ((0, 1, 2, 3, 4, 5, 19), (6,)),
        ):
            with self.subTest(split), refused(self, BadSplit, place=place):
                check_split(*APART, split)

    def test_what_is_no_end_is_told_ahead_of_what_lacks_one(self):
        with refused(self, BadSplit, place=(2,)):
            check_split(*APART, (0, 1, 20))
        with refused(self, BadSplit, place=(3,)):
            check_split(*APART, (0, 2, 3, 3))

    def test_none_where_it_can_be_one_round(self):
        for split in itertools.combinations(range(8), 4):
            with self.assertRaises(BadSplit):
                check_split(TWO, (None, None), split)

    def test_refused_behind_yard_and_draft(self):
        for thing, place in ((None, ()), ((None, 3), (1,)), ((True, None), (0,))):
            bad = [(NO_YARD, BadYard((1,))), (thing, BadDraft(place)), (None, BadSplit(()))]
            check_order(self, check_split, (TWO, (0, None)), bad)

    def test_nothing_handed_in_is_changed(self):
        split = (0, [1], {2: 3})
        with refused(self, BadSplit, place=(1,)):
            check_split(TWO, (0, 0), split)
        self.assertEqual(split, (0, [1], {2: 3}))


class InterfaceTest(unittest.TestCase):
    def test_names_and_arguments(self):
        check_interface(self, splits, (("split_of", "yard, draft"), ("check_split", "yard, draft, split")))


if __name__ == "__main__":
    unittest.main()
