import random
import unittest

from oneround import ladders
from oneround.errors import BadSetting, ManyRounds, TooMany
from oneround.exchanges import path
from oneround.goings import greatest, greatest_worth
from oneround.ladders import MOST_LISTED, better, greatest_ones, ladder, near
from tests.samples import (
    BAD_DRAFTS, BAD_SETTINGS, BAD_WORTHS, BAD_YARDS, MANY_ROUNDS, MOST, TWO, all_yards, chain, changed,
    check_interface, check_order, most_worth, of_one_round, open_ones, refused, ring, some_draft, some_setting,
    some_worths, some_yards, tours, worth_by,
)

ONE = ((0, 1), (2, 3))
ZERO = (0, 0, 0)
FIVE = ((0, 5, 9), (0, 0, 7))
KINDS = ((0,), (0, 1), (-2, -1, 0, 1, 2), (-MOST, MOST), (-MOST, 1 - MOST, 0, MOST - 1, MOST), range(-99, 99))


def small_cases():
    """Rows (YARD, WORTHS, SETTING) of one ROUND, all of whose kind can be gone through."""
    rng = random.Random(141)
    told = []
    for yard in all_yards(1) + all_yards(2)[::9] + all_yards(3)[::1500] + some_yards(142, (3, 4, 5)):
        many = len(yard) // 2
        for kinds in KINDS:
            setting = rng.choice(of_one_round(yard, (None,) * many))
            told.append((yard, some_worths(many, rng, kinds), setting))
    return told


def large_cases():
    rng = random.Random(143)
    told = []
    for yard in some_yards(144, (8, 19, 40)) + [chain(40), ring(40)]:
        for kinds in KINDS:
            told.append((yard, some_worths(len(yard) // 2, rng, kinds), some_setting(yard, rng)))
    return told


SMALL = small_cases()
LARGE = large_cases()


def near_by_words(yard, setting):
    all_of_one = of_one_round(yard, (None,) * len(setting))
    return tuple(other for other in all_of_one if 0 < sum(one != two for one, two in zip(other, setting)) < 3)


def better_of(some, worths, setting):
    """The one of those NEAR that is worth most, of several the least, or None."""
    most = max(worth_by(worths, other) for other in some)
    if most <= worth_by(worths, setting):
        return None
    return min(other for other in some if worth_by(worths, other) == most)


class NearTest(unittest.TestCase):
    def test_by_hand(self):
        self.assertEqual(near(ONE, (1,)), ((2,),))
        self.assertEqual(near(ONE, (2,)), ((1,),))
        self.assertEqual(near(TWO, (0, 1)), ((0, 2), (1, 0), (1, 2), (2, 0), (2, 1)))
        self.assertEqual(near(chain(3), (1, 1, 1)), (
            (1, 1, 2), (1, 2, 1), (1, 2, 2), (2, 1, 1), (2, 1, 2), (2, 2, 1),
        ))

    def test_all_gone_through(self):
        for yard, _, setting in SMALL:
            told = near(yard, setting)
            self.assertEqual(told, near_by_words(yard, setting))
            self.assertEqual({type(told)} | {type(other) for other in told}, {tuple})

    def test_forty_crossings(self):
        # in a chain each WAY but 0 is free
        told = near(chain(40), (1,) * 40)
        self.assertEqual(len(told), 40 + 40 * 39 // 2)
        self.assertEqual(told, tuple(sorted(told)))
        for yard, _, setting in LARGE[::5]:
            many = len(setting)
            told = set(near(yard, setting))
            turns = [(at, way) for at in range(many) for way in range(3) if way != setting[at]]
            rng = random.Random(145)
            for _ in range(40):
                one, other = rng.choice(turns), rng.choice(turns)
                behind = changed(changed(setting, *one), *other)
                self.assertEqual(behind in told, len(tours(yard, behind)) == 1)

    def test_some_is_always_near(self):
        for yard, _, setting in SMALL + LARGE:
            self.assertGreaterEqual(len(near(yard, setting)), len(setting))


class BetterTest(unittest.TestCase):
    def test_by_hand(self):
        self.assertEqual(better(ONE, ((9, 1, 2),), (1,)), (2,))
        self.assertIsNone(better(ONE, ((9, 1, 2),), (2,)))
        self.assertIsNone(better(ONE, ((9, 1, 1),), (1,)))
        self.assertEqual(better(TWO, FIVE, (0, 1)), (1, 2))
        self.assertEqual(better(TWO, ((0, 0, 0), (0, 0, 1)), (2, 1)), (0, 2))
        self.assertEqual(better(TWO, ((0, 1, 1), (1, 0, 0)), (0, 2)), (1, 0))
        self.assertEqual(better(chain(3), ((0, 0, 5),) * 3, (1, 1, 1)), (1, 2, 2))

    def test_the_one_near_that_is_worth_most_of_several_the_least(self):
        nones = 0
        for yard, worths, setting in SMALL:
            want = better_of(near_by_words(yard, setting), worths, setting)
            self.assertEqual(better(yard, worths, setting), want)
            nones += want is None
        self.assertGreater(nones, 20)
        self.assertGreater(len(SMALL) - nones, 20)

    def test_none_just_where_it_is_of_the_greatest_worth(self):
        for yard, worths, setting in SMALL + LARGE:
            is_most = worth_by(worths, setting) == greatest_worth(yard, worths)
            self.assertEqual(better(yard, worths, setting) is None, is_most)
            self.assertIsNone(better(yard, worths, greatest(yard, worths)))


class LadderTest(unittest.TestCase):
    def test_by_hand(self):
        self.assertEqual(ladder(ONE, ((9, 1, 2),), (1,)), ((1,), (2,)))
        self.assertEqual(ladder(ONE, (ZERO,), (1,)), ((1,),))
        self.assertEqual(ladder(chain(3), ((0, 0, 5),) * 3, (1, 1, 1)), ((1, 1, 1), (1, 2, 2), (2, 2, 2)))
        self.assertEqual(ladder(chain(3), ((0, 0, 6), (0, 0, 5), (0, 0, 5)), (1, 1, 1)), (
            (1, 1, 1), (2, 1, 2), (2, 2, 2),
        ))

    def test_step_by_step_up_to_the_greatest_worth(self):
        for yard, worths, setting in SMALL + LARGE:
            told = ladder(yard, worths, setting)
            self.assertIs(type(told), tuple)
            self.assertEqual(told[0], setting)
            for one, other in zip(told, told[1:]):
                self.assertEqual(better(yard, worths, one), other)
                self.assertGreater(worth_by(worths, other), worth_by(worths, one))
            self.assertIsNone(better(yard, worths, told[-1]))
            self.assertEqual(worth_by(worths, told[-1]), greatest_worth(yard, worths))

    def test_a_long_one_of_forty_crossings(self):
        worths = tuple((0, crossing, 2 * crossing + 2) for crossing in range(40))
        told = ladder(chain(40), worths, (1,) * 40)
        want = [(1,) * low + (2,) * (40 - low) for low in range(40, -1, -2)]
        self.assertEqual(told, tuple(want))


class GreatestOnesTest(unittest.TestCase):
    def test_by_hand(self):
        self.assertEqual(MOST_LISTED, 7)
        self.assertEqual(greatest_ones(ONE, (ZERO,)), ((1,), (2,)))
        self.assertEqual(greatest_ones(ONE, ((9, 1, 0),)), ((1,),))
        self.assertEqual(greatest_ones(TWO, FIVE), ((1, 2),))
        self.assertEqual(greatest_ones(TWO, (ZERO, ZERO)), ((0, 1), (0, 2), (1, 0), (1, 2), (2, 0), (2, 1)))
        self.assertEqual(greatest_ones(TWO, (ZERO, ZERO), draft=(None, 0)), ((1, 0), (2, 0)))
        self.assertEqual(greatest_ones(TWO, FIVE, draft=(0, 1)), ((0, 1),))
        self.assertEqual(len(greatest_ones(chain(7), (ZERO,) * 7)), 2 ** 7)

    def cases(self):
        rng = random.Random(146)
        for yard, worths, _ in SMALL:
            for _ in range(3):
                yield yard, worths, some_draft(yard, rng.randrange(len(yard) // 2 + 1), rng)
        for yard, worths, _ in LARGE:
            yield yard, worths, some_draft(yard, rng.choice((0, 1, 4)), rng)

    def test_all_gone_through(self):
        for yard, worths, draft in self.cases():
            most = most_worth(yard, worths, draft)
            want = tuple(one for one in of_one_round(yard, draft) if worth_by(worths, one) == most)
            told = greatest_ones(yard, worths, draft=draft)
            self.assertEqual(told, want)
            self.assertEqual({type(told)} | {type(one) for one in told}, {tuple})
            self.assertIn(greatest(yard, worths, draft=draft), told)

    def test_seven_open_crossings_of_large_yards(self):
        rng = random.Random(147)
        for yard, worths, _ in LARGE:
            draft = some_draft(yard, 7, rng)
            told = greatest_ones(yard, worths, draft=draft)
            self.assertEqual(list(told), sorted(set(told)))
            self.assertIn(greatest(yard, worths, draft=draft), told)
            for one in told[:20]:
                self.assertEqual(len(tours(yard, one)), 1)
                self.assertEqual(worth_by(worths, one), greatest_worth(yard, worths, draft=draft))

    def test_from_each_to_each_other_one_lead_exchanges_each_to_one_of_them(self):
        paths = 0
        for yard, worths, draft in self.cases():
            told = greatest_ones(yard, worths, draft=draft)
            for one in told[:6]:
                for other in told[-6:]:
                    self.assertTrue(self.leads(yard, told, one, other))
                    paths += one != other
        self.assertGreater(paths, 300)

    def leads(self, yard, ones, one, other):
        """Whether EXCHANGES lead from one to the other, each to one of them: at whichever crossings."""
        seen, waiting = {one}, [one]
        while waiting and other not in seen:
            here = waiting.pop()
            for there in ones:
                if there not in seen and self.is_exchange(yard, here, there):
                    seen.add(there)
                    waiting.append(there)
        return other in seen

    def is_exchange(self, yard, here, there):
        unlike = sum(one != two for one, two in zip(here, there))
        return unlike == 1 or unlike == 2 and len(path(yard, here, there)) == 1

    def test_more_open_ones_than_may_be(self):
        for many in (8, 9, 40):
            with refused(self, TooMany, many=many):
                greatest_ones(chain(many), (ZERO,) * many)
            with refused(self, TooMany, many=many):
                greatest_ones(chain(many), (ZERO,) * many, draft=(None,) * many)
        with refused(self, TooMany, many=8):
            greatest_ones(chain(40), (ZERO,) * 40, draft=(1,) * 32 + (None,) * 8)
        told = greatest_ones(chain(40), (ZERO,) * 40, draft=(1,) * 33 + (None,) * 7)
        self.assertEqual(len(told), 2 ** 7)

    def test_refused_in_order(self):
        def call(yard, worths, draft):
            greatest_ones(yard, worths, draft=draft)

        for kind in range(24):
            bad = [BAD_YARDS[kind % 8], BAD_WORTHS[kind % 7 % 8], BAD_DRAFTS[kind % 12]]
            check_order(self, call, (TWO, FIVE, None), bad)
        draft = (None,) * 8 + (0,)
        with self.assertRaises(ValueError) as told:
            greatest_ones(chain(9), (ZERO,) * 9, draft=draft)
        # that it can't be one round is told ahead of how many are OPEN
        self.assertEqual(told.exception.split, tuple(range(34)))


class RefusedTest(unittest.TestCase):
    def test_in_order(self):
        no_ones = BAD_SETTINGS + MANY_ROUNDS
        for kind in range(30):
            yard, worths, setting = BAD_YARDS[kind % 8], BAD_WORTHS[kind % 7], no_ones[kind % 13]
            check_order(self, near, (TWO, (0, 1)), [yard, setting])
            for call in (better, ladder):
                check_order(self, call, (TWO, FIVE, (0, 1)), [yard, worths, setting])

    def test_each_setting(self):
        for call in (near, lambda yard, thing: better(yard, FIVE, thing), lambda yard, thing: ladder(yard, FIVE, thing)):
            for thing, error in BAD_SETTINGS:
                with refused(self, BadSetting, place=error.place):
                    call(TWO, thing)
            for thing, error in MANY_ROUNDS:
                with refused(self, ManyRounds, many=error.many):
                    call(TWO, thing)
        with refused(self, ManyRounds, many=41):
            near(chain(40), (0,) * 40)

    def test_draft_is_taken_by_its_name_alone(self):
        with self.assertRaises(TypeError):
            greatest_ones(TWO, FIVE, None)

    def test_names_and_arguments(self):
        check_interface(self, ladders, (
            ("near", "yard, setting"), ("better", "yard, worths, setting"), ("ladder", "yard, worths, setting"),
            ("greatest_ones", "yard, worths, *, draft=None"),
        ))


class ChangedTest(unittest.TestCase):
    """Of WORTHS, or DRAFTS, that are unlike at one crossing alone."""

    def check_beside(self, yard, ahead, behind, crossing):
        """Of each by the one some by the other differs there and at one other at the most."""
        for some, others in ((ahead, behind), (behind, ahead)):
            for one in some:
                unlike = [{at for at in range(len(one)) if one[at] != other[at]} for other in others]
                self.assertTrue(any(not at or crossing in at and len(at) < 3 for at in unlike))

    def test_of_worths_that_are_unlike_at_one_crossing(self):
        rng = random.Random(148)
        for yard, worths, _ in SMALL + [case for case in LARGE if len(case[1]) < 9][:3]:
            draft = some_draft(yard, rng.choice((3, 7)), rng)
            for crossing in range(len(worths)):
                three = tuple(rng.choice((-3, -1, 0, 1, 2, 5, -MOST, MOST)) for _ in range(3))
                told = [greatest_ones(yard, each, draft=draft) for each in (worths, changed(worths, crossing, three))]
                self.check_beside(yard, *told, crossing)

    def test_of_drafts_that_are_unlike_at_one_crossing(self):
        rng = random.Random(149)
        for yard, worths, _ in SMALL:
            draft = some_draft(yard, rng.choice((3, 7)), rng)
            for crossing in open_ones(draft):
                tried = [changed(draft, crossing, way) for way in range(3)]
                tried = [draft] + [other for other in tried if of_one_round(yard, other)]
                told = [greatest_ones(yard, worths, draft=other) for other in tried]
                for one in told:
                    for other in told:
                        self.check_beside(yard, one, other, crossing)


if __name__ == "__main__":
    unittest.main()
