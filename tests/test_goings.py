import random
import unittest

from oneround import goings
from oneround.errors import OutOfPlace
from oneround.goingpapers import check_going
from oneround.goings import going, greatest, greatest_worth, price
from oneround.names import draft_renamed, renamed
from oneround.splices import spliced
from oneround.splits import check_split
from tests.samples import (
    BAD_DRAFTS, BAD_WORTHS, BAD_YARDS, HUGE, MOST, TWO, all_ways, all_yards, anything, chain, changed,
    check_interface, check_order, grown_yard, holds, loose_yard, most_worth, of_one_round, open_ones, refused, ring,
    some_draft, some_names, some_worths, some_yards, tours, worth_by,
    worths_renamed,
)

ONE = ((0, 1), (2, 3))
KINDS = ((0,), (0, 1), (-2, -1, 0, 1, 2), (-MOST, MOST), (-MOST, 1 - MOST, 0, MOST - 1, MOST), range(-99, 99))
FIVE = ((0, 5, 9), (0, 0, 7))


def small_cases():
    """Rows (YARD, WORTHS, DRAFT) whose SETTINGS can all be gone through; some DRAFTS are None."""
    rng = random.Random(91)
    told = []
    for yard in all_yards(1) + all_yards(2)[::4] + all_yards(3)[::600]:
        many = len(yard) // 2
        for draft in all_ways(many, (0, 1, 2, None)):
            if len(holds(yard, draft)) == 1:
                told += [(yard, some_worths(many, rng, kinds), draft) for kinds in rng.sample(KINDS, 3)]
        told.append((yard, some_worths(many, rng, KINDS[-1]), None))
    for yard in some_yards(92, (4, 5, 5)):
        many = len(yard) // 2
        for kinds in KINDS:
            told.append((yard, some_worths(many, rng, kinds), None))
            told += [(yard, some_worths(many, rng, kinds), some_draft(yard, left, rng)) for left in range(many + 1)]
    return told


def large_cases():
    """Rows (YARD, WORTHS, DRAFT) of YARDS of up to 40 crossings."""
    rng = random.Random(93)
    told = []
    for yard in some_yards(94, (9, 23, 40)) + [chain(40), ring(40)]:
        many = len(yard) // 2
        for kinds in KINDS:
            told.append((yard, some_worths(many, rng, kinds), None))
            told.append((yard, some_worths(many, rng, kinds), some_draft(yard, many // 2, rng)))
    return told


SMALL = small_cases()
LARGE = large_cases()


def told_draft(yard, draft):
    return (None,) * (len(yard) // 2) if draft is None else draft


def going_by_words(yard, worths, draft):
    """The GOING, as the document has it."""
    draft = told_draft(yard, draft)
    ranks = [sorted(range(3), key=lambda way: (-three[way], way)) for three in worths]
    regrets = [three[best] - three[second] for three, (best, second, _) in zip(worths, ranks)]
    rows = []
    for crossing in sorted(range(len(draft)), key=lambda at: (-regrets[at], at)):
        if draft[crossing] is None:
            best, second, _ = ranks[crossing]
            parts = holds(yard, changed(draft, crossing, best))
            way, split = (best, None) if len(parts) == 1 else (second, tuple(parts[0]))
            draft = changed(draft, crossing, way)
            rows.append((crossing, way, split))
    return tuple(rows), draft


def ring_worth(worths):
    """What the SETTINGS of one ROUND of a ring are worth at the most: crossing by crossing."""
    # by how many of WAY 0 (2 of none that can be any more) and whether those of WAY 2 are odd
    best = {(0, 0): 0}
    for three in worths:
        new = {}
        for (back, odd), worth in best.items():
            for way in range(3):
                state = (back + (way == 0), odd ^ (way == 2))
                new[state] = max(new.get(state, worth + three[way]), worth + three[way])
        best = {state: worth for state, worth in new.items() if state[0] < 2}
    return max(worth for (back, odd), worth in best.items() if back == 1 or odd)


class GoingTest(unittest.TestCase):
    def test_by_hand(self):
        self.assertEqual(going(ONE, ((5, 3, 1),)), ((0, 1, (0, 1)),))
        self.assertEqual(going(ONE, ((5, 3, 7),)), ((0, 2, None),))
        self.assertEqual(going(ONE, ((0, 0, 0),)), ((0, 1, (0, 1)),))
        self.assertEqual(going(ONE, ((0, 0, 0),), draft=(2,)), ())
        self.assertEqual(going(TWO, FIVE), ((1, 2, None), (0, 1, (0, 3, 4, 7))))
        self.assertEqual(going(TWO, FIVE, draft=(None, None)), going(TWO, FIVE, draft=None))
        self.assertEqual(going(TWO, FIVE, draft=(None, 1)), ((0, 2, None),))
        self.assertEqual(going(TWO, ((1, 0, 0), (0, 0, 1))), ((0, 0, None), (1, 2, None)))

    def test_as_the_words_have_it(self):
        seconds = 0
        for yard, worths, draft in SMALL[::3] + LARGE:
            told = going(yard, worths, draft=draft)
            want, end = going_by_words(yard, worths, draft)
            self.assertEqual(told, want)
            self.assertEqual({type(told)} | {type(step) for step in told}, {tuple})
            self.assertEqual(greatest(yard, worths, draft=draft), end)
            seconds += len([split for _, _, split in told if split is not None])
        self.assertGreater(seconds, 100)

    def test_each_split_is_one_of_what_is_joined_by_then_and_by_the_best(self):
        for yard, worths, draft in LARGE:
            joined = told_draft(yard, draft)
            for crossing, way, split in going(yard, worths, draft=draft):
                if split is not None:
                    best = max(range(3), key=lambda at: (worths[crossing][at], -at))
                    self.assertNotEqual(way, best)
                    self.assertIsNone(check_split(yard, changed(joined, crossing, best), split))
                joined = changed(joined, crossing, way)

    def test_no_rows_without_an_open_crossing(self):
        for yard, worths, draft in SMALL:
            if draft is not None and None not in draft:
                self.assertEqual(going(yard, worths, draft=draft), ())
                self.assertEqual(greatest(yard, worths, draft=draft), draft)
                self.assertEqual(greatest_worth(yard, worths, draft=draft), worth_by(worths, draft))


class GreatestTest(unittest.TestCase):
    def test_by_hand(self):
        self.assertEqual(greatest(ONE, ((5, 3, 1),)), (1,))
        self.assertEqual(greatest_worth(ONE, ((5, 3, 1),)), 3)
        self.assertEqual(greatest(TWO, FIVE), (1, 2))
        self.assertEqual(greatest_worth(TWO, FIVE), 12)
        self.assertEqual(greatest_worth(TWO, FIVE, draft=(2, None)), 9)
        self.assertEqual(greatest_worth(chain(40), ((MOST, -MOST, -MOST),) * 40), -40 * MOST)
        self.assertEqual(greatest_worth(chain(40), ((MOST, -MOST, MOST),) * 40), 40 * MOST)

    def test_it_has_one_round_and_fills_the_draft(self):
        for yard, worths, draft in SMALL + LARGE:
            told = greatest(yard, worths, draft=draft)
            self.assertIs(type(told), tuple)
            self.assertEqual(len(tours(yard, told)), 1)
            for way, old in zip(told, told_draft(yard, draft)):
                self.assertIn(old, (None, way))
            self.assertEqual(greatest_worth(yard, worths, draft=draft), worth_by(worths, told))

    def test_none_of_one_round_is_worth_more(self):
        for yard, worths, draft in SMALL:
            self.assertEqual(greatest_worth(yard, worths, draft=draft), most_worth(yard, worths, draft))

    def test_none_that_is_worth_as_much_has_a_way_that_is_worth_less_than_the_second(self):
        for yard, worths, draft in SMALL:
            most = greatest_worth(yard, worths, draft=draft)
            draft = told_draft(yard, draft)
            for setting in of_one_round(yard, draft):
                if worth_by(worths, setting) == most:
                    for crossing in open_ones(draft):
                        second = sorted(worths[crossing])[1]
                        self.assertGreaterEqual(worths[crossing][setting[crossing]], second)

    def test_forty_crossings_in_a_chain(self):
        # there each WAY 0 closes something, and no other WAY does
        rng = random.Random(95)
        for kinds in KINDS:
            worths = some_worths(40, rng, kinds)
            want = sum(max(three[1:]) for three in worths)
            self.assertEqual(greatest_worth(chain(40), worths), want)

    def test_forty_crossings_in_a_ring(self):
        rng = random.Random(96)
        for many in (1, 2, 3, 4, 17, 40):
            for kinds in KINDS * 3:
                worths = some_worths(many, rng, kinds)
                self.assertEqual(greatest_worth(ring(many), worths), ring_worth(worths))

    def test_ring_worth_against_all(self):
        rng = random.Random(97)
        for many in (1, 2, 3, 4):
            for kinds in KINDS:
                worths = some_worths(many, rng, kinds)
                self.assertEqual(ring_worth(worths), most_worth(ring(many), worths))

    def test_of_both_parts_together_it_is_that_of_the_whole(self):
        rng = random.Random(98)
        for make in (grown_yard, loose_yard):
            for kinds in KINDS:
                whole, worths, draft, most = ONE, ((3, 1, 2),), (None,), 2
                while len(whole) < 80:
                    many = min(4, 40 - len(whole) // 2)
                    part, part_worths = make(many, rng), some_worths(many, rng, kinds)
                    part_draft = some_draft(part, rng.randrange(many + 1), rng)
                    lines = rng.randrange(len(whole)), rng.randrange(len(part))
                    whole = spliced(whole, part, *lines)
                    worths, draft = worths + part_worths, draft + part_draft
                    most += most_worth(part, part_worths, part_draft)
                    self.assertEqual(greatest_worth(whole, worths, draft=draft), most)

    def test_going_and_prices_of_each_part_are_those_of_the_whole(self):
        rng = random.Random(99)
        for yard, other in zip(some_yards(1, (3, 12, 20)), some_yards(2, (4, 9, 20))):
            many = len(yard) // 2
            one, two = some_worths(many, rng, KINDS[-1]), some_worths(len(other) // 2, rng, KINDS[2])
            whole = spliced(yard, other, rng.randrange(len(yard)), rng.randrange(len(other)))
            told = [(crossing, way) for crossing, way, _ in going(whole, one + two)]
            self.assertEqual([turn for turn in told if turn[0] < many], [turn[:2] for turn in going(yard, one)])
            behind = [(crossing - many, way) for crossing, way in told if crossing >= many]
            self.assertEqual(behind, [turn[:2] for turn in going(other, two)])
            self.assertEqual(greatest(whole, one + two), greatest(yard, one) + greatest(other, two))
            for crossing in range(0, len(whole) // 2, 3):
                part, part_worths, at = (yard, one, crossing) if crossing < many else (other, two, crossing - many)
                for way in range(3):
                    self.assertEqual(price(whole, one + two, crossing, way), price(part, part_worths, at, way))


class RenamedTest(unittest.TestCase):
    def cases(self):
        rng = random.Random(100)
        for yard, worths, draft in SMALL[::9] + LARGE[::7]:
            names = some_names(len(yard) // 2, rng)
            old = told_draft(yard, draft)
            yield yard, worths, old, names, renamed(yard, names), worths_renamed(names, worths)

    def test_greatest_worth_goes_over(self):
        for yard, worths, draft, names, new_yard, new_worths in self.cases():
            new_draft = draft_renamed(yard, names, draft)
            told = greatest_worth(new_yard, new_worths, draft=new_draft)
            self.assertEqual(told, greatest_worth(yard, worths, draft=draft))

    def test_prices_go_over(self):
        for yard, worths, draft, names, new_yard, new_worths in self.cases():
            new_draft = draft_renamed(yard, names, draft)
            for crossing in open_ones(draft)[::5]:
                for way in range(3):
                    new = names[4 * crossing] // 4
                    new_way = draft_renamed(yard, names, changed(draft, crossing, way))[new]
                    told = price(new_yard, new_worths, new, new_way, draft=new_draft)
                    self.assertEqual(told, price(yard, worths, crossing, way, draft=draft))

    def test_the_going_goes_over_where_no_worths_and_regrets_are_alike(self):
        rng = random.Random(101)
        for yard in some_yards(102, (1, 3, 8, 40)):
            many = len(yard) // 2
            worths = tuple(tuple(rng.sample(range(10 ** 9), 3)) for _ in range(many))
            names = some_names(many, rng)
            new_yard, new_worths = renamed(yard, names), worths_renamed(names, worths)
            want = []
            for crossing, way, split in going(yard, worths):
                new = names[4 * crossing] // 4
                new_way = draft_renamed(yard, names, (way,) * many)[new]
                ends = None if split is None else tuple(sorted(names[end] for end in split))
                want.append((new, new_way, ends))
            told = going(new_yard, new_worths)
            self.assertEqual([step[:2] for step in told], [step[:2] for step in want])
            self.assertEqual([step[2] is None for step in told], [step[2] is None for step in want])
            self.assertEqual(check_going(new_yard, new_worths, tuple(want)), greatest_worth(yard, worths))


class PriceTest(unittest.TestCase):
    def test_by_hand(self):
        self.assertEqual([price(ONE, ((5, 3, 1),), 0, way) for way in range(3)], [None, 0, 2])
        self.assertEqual([price(TWO, FIVE, 0, way) for way in range(3)], [5, 0, 3])
        self.assertEqual([price(TWO, FIVE, 0, way, draft=(None, 2)) for way in range(3)], [5, 0, None])
        worths = ((MOST, -MOST, -MOST),) * 40
        self.assertEqual([price(chain(40), worths, 39, way) for way in range(3)], [None, 0, 0])
        worths = ((0, MOST, -MOST),) * 40
        self.assertEqual([price(chain(40), worths, 7, way) for way in range(3)], [None, 0, 2 * MOST])

    def test_by_how_much_it_is_less_all_gone_through(self):
        for yard, worths, draft in SMALL[::2]:
            ways = told_draft(yard, draft)
            all_of_one = of_one_round(yard, ways)
            most = most_worth(yard, worths, ways)
            for crossing in open_ones(ways):
                for way in range(3):
                    those = [worth_by(worths, setting) for setting in all_of_one if setting[crossing] == way]
                    want = most - max(those) if those else None
                    self.assertEqual(price(yard, worths, crossing, way, draft=draft), want)

    def test_large_ones(self):
        for yard, worths, draft in LARGE[::5]:
            ways = told_draft(yard, draft)
            most = greatest_worth(yard, worths, draft=draft)
            for crossing in open_ones(ways)[::6]:
                prices = [price(yard, worths, crossing, way, draft=draft) for way in range(3)]
                self.assertEqual(min(told for told in prices if told is not None), 0)
                for way, told in enumerate(prices):
                    tried = changed(ways, crossing, way)
                    if len(holds(yard, tried)) > 1:
                        self.assertIsNone(told)
                    else:
                        self.assertEqual(told, most - greatest_worth(yard, worths, draft=tried))

    def test_a_worth_more_makes_the_greatest_worth_more_by_what_is_above_the_price(self):
        rng = random.Random(103)
        for yard, worths, draft in SMALL[::29] + LARGE[::11]:
            ways = told_draft(yard, draft)
            for crossing in open_ones(ways)[::7]:
                for way in range(3):
                    told = price(yard, worths, crossing, way, draft=draft)
                    top = MOST - worths[crossing][way]
                    for more in (0, 1, rng.randrange(top + 1), top, (told or 0) + 1):
                        if more <= top:
                            three = changed(worths[crossing], way, worths[crossing][way] + more)
                            raised = greatest_worth(yard, changed(worths, crossing, three), draft=draft)
                            above = 0 if told is None else max(0, more - told)
                            self.assertEqual(raised, greatest_worth(yard, worths, draft=draft) + above)

    def test_of_no_open_crossing_and_of_no_way(self):
        for thing in anything() + [1, 2, 3, 40, "0"]:
            with self.subTest(repr(thing)[:80]), refused(self, OutOfPlace, place=()):
                price(TWO, FIVE, thing, 0, draft=(None, 1))
            with refused(self, OutOfPlace, place=()):
                price(TWO, FIVE, thing, HUGE, draft=(None, 1))
        for thing in anything() + [3, 4, "b"]:
            with self.subTest(repr(thing)[:80]), refused(self, OutOfPlace, place=()):
                price(TWO, FIVE, 0, thing, draft=(None, 1))
        for crossing, way in ((0, 0), (1, 1), (1, 0), (2, 0), (-1, 0)):
            with refused(self, OutOfPlace, place=()):
                price(TWO, FIVE, crossing, way, draft=(0, 1))


class RefusedTest(unittest.TestCase):
    def test_in_order(self):
        def told_by(call):
            return lambda yard, worths, draft: call(yard, worths, draft=draft)

        def price_at(yard, worths, draft, crossing, way):
            price(yard, worths, crossing, way, draft=draft)

        for kind in range(24):
            bad = [BAD_YARDS[kind % 8], BAD_WORTHS[kind % 7 % 8], BAD_DRAFTS[kind % 12]]
            for call in (going, greatest, greatest_worth):
                check_order(self, told_by(call), (TWO, FIVE, None), bad)
            out = [(2, OutOfPlace(())), (3, OutOfPlace(()))]
            check_order(self, price_at, (TWO, FIVE, None, 0, 0), bad + out)

    def test_each_kind_of_each(self):
        for call in (going, greatest, greatest_worth, lambda *told, draft: price(*told, 0, 0, draft=draft)):
            for thing, error in BAD_WORTHS:
                with refused(self, type(error), **vars(error)):
                    call(TWO, thing, draft=(None, None))
            for thing, error in BAD_DRAFTS:
                with refused(self, type(error), **vars(error)):
                    call(TWO, FIVE, draft=thing)
            for thing in anything():
                if thing is not None and (type(thing) is not tuple or len(thing) != 2):
                    with self.assertRaises(ValueError) as told:
                        call(TWO, FIVE, draft=thing)
                    self.assertEqual(told.exception.place, ())

    def test_draft_is_taken_by_its_name_alone(self):
        for call, many in ((going, 2), (greatest, 2), (greatest_worth, 2), (price, 4)):
            with self.assertRaises(TypeError):
                call(*(TWO, FIVE, 0, 0)[:many], (None, None))

    def test_nothing_handed_in_is_changed(self):
        worths, draft = [[1, 2, 3], [4]], [None, {1: [2]}]
        for call in (going, greatest, greatest_worth):
            with self.assertRaises(ValueError):
                call(TWO, worths)
            with self.assertRaises(ValueError):
                call(TWO, FIVE, draft=draft)
        self.assertEqual((worths, draft), ([[1, 2, 3], [4]], [None, {1: [2]}]))


class InterfaceTest(unittest.TestCase):
    def test_names_and_arguments(self):
        check_interface(self, goings, (
            ("going", "yard, worths, *, draft=None"), ("greatest", "yard, worths, *, draft=None"),
            ("greatest_worth", "yard, worths, *, draft=None"),
            ("price", "yard, worths, crossing, way, *, draft=None"),
        ))


if __name__ == "__main__":
    unittest.main()
