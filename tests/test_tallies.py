import random
import unittest

from oneround import tallies
from oneround.drafts import ones
from oneround.errors import BadDraft, BadYard, NeverOne, TooMany
from oneround.names import draft_renamed, renamed
from oneround.splices import spliced
from oneround.tallies import MOST_TALLIED, tally
from tests.samples import (
    BAD_DRAFTS, BAD_YARDS, TWO, all_ways, all_yards, anything, chain, check_interface, check_order, fillings,
    open_ones, refused, ring, some_draft, some_names, some_ways, some_yards, tours,
)

ONE = ((0, 1), (2, 3))
KINDS = (0, 1, 2, None)


def cases():
    """Pairs of a YARD and a DRAFT, that CAN be one round or not."""
    rng = random.Random(151)
    told = [(yard, draft) for yard in all_yards(1) for draft in all_ways(1, KINDS)]
    told += [(yard, draft) for yard in all_yards(2)[::8] for draft in all_ways(2, KINDS)]
    told += [(yard, some_ways(3, rng, KINDS)) for yard in all_yards(3)[::200]]
    for yard in some_yards(152, (4, 5, 9, 22, 40)) + [chain(40), ring(40)]:
        many = len(yard) // 2
        for left in (0, 1, 2, 3, 4):
            left_open = rng.sample(range(many), left)
            told.append((yard, tuple(None if at in left_open else rng.randrange(3) for at in range(many))))
            told.append((yard, some_draft(yard, left, rng)))
    return told


CASES = cases()


def tally_by_words(yard, draft):
    many = [len(tours(yard, setting)) for setting in fillings(draft)]
    return tuple((rounds, many.count(rounds)) for rounds in sorted(set(many)))


def seven_open(yard, rng):
    left = rng.sample(range(len(yard) // 2), 7)
    return tuple(None if at in left else rng.randrange(3) for at in range(len(yard) // 2))


class TallyTest(unittest.TestCase):
    def test_by_hand(self):
        self.assertEqual(MOST_TALLIED, 7)
        self.assertEqual(tally(ONE), ((1, 2), (2, 1)))
        self.assertEqual(tally(ONE, draft=None), ((1, 2), (2, 1)))
        self.assertEqual(tally(ONE, draft=(0,)), ((2, 1),))
        self.assertEqual(tally(ONE, draft=(1,)), ((1, 1),))
        self.assertEqual(tally(TWO), ((1, 6), (2, 3)))
        self.assertEqual(tally(chain(3)), ((1, 8), (2, 12), (3, 6), (4, 1)))
        self.assertEqual(tally(chain(40), draft=(0,) * 40), ((41, 1),))
        self.assertEqual(tally(chain(40), draft=(0,) * 38 + (None,) * 2), ((39, 4), (40, 4), (41, 1)))

    def test_all_gone_through(self):
        for yard, draft in CASES:
            told = tally(yard, draft=draft)
            self.assertEqual(told, tally_by_words(yard, draft))
            self.assertEqual({type(told)} | {type(pair) for pair in told}, {tuple})

    def test_of_all_open_where_none_is_told(self):
        for yard in all_yards(1) + all_yards(2)[::5] + some_yards(153, (3, 4, 7)):
            self.assertEqual(tally(yard), tally(yard, draft=(None,) * (len(yard) // 2)))

    def test_where_some_crossing_is_open_all_together_are_0(self):
        rng = random.Random(154)
        more = [(yard, seven_open(yard, rng)) for yard in some_yards(155, (7, 20, 40)) + [chain(40)]]
        for yard, draft in CASES + more:
            told = tally(yard, draft=draft)
            self.assertEqual(sum(many for _, many in told), 3 ** len(open_ones(draft)))
            self.assertEqual([rounds for rounds, _ in told], sorted({rounds for rounds, _ in told}))
            self.assertGreater(min(many for _, many in told), 0)
            if None in draft:
                self.assertEqual(sum(many * (-2) ** rounds for rounds, many in told), 0)

    def test_those_of_one_round_are_as_many_as_ones_tells(self):
        rng = random.Random(156)
        for yard, draft in CASES + [(yard, some_draft(yard, 7, rng)) for yard in some_yards(157, (9, 40))]:
            self.assertEqual(dict(tally(yard, draft=draft)).get(1, 0), ones(yard, draft=draft))

    def test_of_spliced_yards_they_multiply_a_round_less(self):
        rng = random.Random(158)
        for one, other in zip(CASES[::5], CASES[3::5]):
            lines = rng.randrange(len(one[0])), rng.randrange(len(other[0]))
            if len(one[0]) + len(other[0]) <= 80 and len(open_ones(one[1] + other[1])) < 8:
                want = {}
                for rounds, many in tally(one[0], draft=one[1]):
                    for more, times in tally(other[0], draft=other[1]):
                        want[rounds + more - 1] = want.get(rounds + more - 1, 0) + many * times
                told = tally(spliced(one[0], other[0], *lines), draft=one[1] + other[1])
                self.assertEqual(told, tuple(sorted(want.items())))

    def test_of_renamed_yards_they_are_the_same(self):
        rng = random.Random(159)
        for yard, draft in CASES[::3]:
            names = some_names(len(draft), rng)
            told = tally(renamed(yard, names), draft=draft_renamed(yard, names, draft))
            self.assertEqual(told, tally(yard, draft=draft))


class RefusedTest(unittest.TestCase):
    def test_more_open_ones_than_may_be(self):
        for many in (8, 9, 40):
            for draft in (None, (None,) * many):
                with refused(self, TooMany, many=many):
                    tally(chain(many), draft=draft)
        with refused(self, TooMany, many=8):
            tally(chain(40), draft=(0,) * 32 + (None,) * 8)
        self.assertEqual(sum(many for _, many in tally(chain(40), draft=(0,) * 33 + (None,) * 7)), 3 ** 7)

    def test_in_order(self):
        def call(yard, draft):
            tally(yard, draft=draft)

        for kind in range(24):
            thing, error = BAD_DRAFTS[kind % 12]
            if type(error) is not NeverOne:
                check_order(self, call, (TWO, None), [BAD_YARDS[kind % 8], (thing, error)])
                many = (None,) * 8 + (3,)
                check_order(self, call, (chain(9), None), [BAD_YARDS[kind % 8], (many, BadDraft((8,)))])

    def test_the_draft_is_any(self):
        for thing, error in BAD_DRAFTS:
            if type(error) is NeverOne:
                self.assertEqual(tally(TWO, draft=thing), ((2, 1),))
            else:
                with refused(self, BadDraft, place=error.place):
                    tally(TWO, draft=thing)

    def test_of_anything(self):
        for thing in anything():
            if type(thing) is not tuple or len(thing) != 2:
                with refused(self, BadYard, place=()):
                    tally(thing)
                if thing is not None:
                    with refused(self, BadDraft, place=()):
                        tally(TWO, draft=thing)

    def test_names_and_arguments(self):
        check_interface(self, tallies, (("tally", "yard, *, draft=None"),))
        with self.assertRaises(TypeError):
            tally(TWO, None)


if __name__ == "__main__":
    unittest.main()
