import itertools
import random
import unittest

from oneround import goingpapers
from oneround.errors import BadPaper
from oneround.goingpapers import check_going
from oneround.goings import going, greatest_worth
from tests.samples import (
    BAD_DRAFTS, BAD_WORTHS, BAD_YARDS, HUGE, MOST, TWO, all_yards, anything, chain, changed, check_interface,
    check_order, holds, most_worth, open_ones, refused, ring, some_draft, some_worths, some_yards, tours, worth_by,
)

ONE = ((0, 1), (2, 3))
FIVE = ((0, 5, 9), (0, 0, 7))
PAPER = ((1, 2, None), (0, 1, (0, 3, 4, 7)))
ZERO = (0, 0, 0)
KINDS = ((0,), (0, 1), (-2, -1, 0, 1, 2), (-MOST, MOST), range(-99, 99))


def is_split(yard, draft, thing):
    """Whether a thing is a SPLIT: some of the parts, not all, that hold together."""
    if type(thing) is not tuple or not 0 < len(thing) < 2 * len(yard):
        return False
    if any(type(end) is not int for end in thing) or list(thing) != sorted(set(thing)):
        return False
    inside = [end for part in holds(yard, draft) if set(part) <= set(thing) for end in part]
    return sorted(inside) == list(thing)


def is_good_step(yard, worths, draft, step, ahead):
    """Whether a thing is a row of a PAPER behind a REGRET."""
    if type(step) is not tuple or len(step) != 3:
        return False
    crossing, way, split = step
    if type(crossing) is not int or crossing not in open_ones(draft) or type(way) is not int:
        return False
    three = worths[crossing]
    best, second, _ = sorted(range(3), key=lambda at: (-three[at], at))
    if ahead is not None and three[best] - three[second] > ahead:
        return False
    if way == best:
        return split is None
    return way == second and is_split(yard, changed(draft, crossing, best), split)


def paper_place(yard, worths, draft, paper):
    """The place at which a thing is no PAPER, or what it shows: as the document has it."""
    if type(paper) is not tuple or len(paper) != len(open_ones(draft)):
        return ()
    ahead = None
    for number, step in enumerate(paper):
        if not is_good_step(yard, worths, draft, step, ahead):
            return (number,)
        three = sorted(worths[step[0]])
        ahead = three[2] - three[1]
        draft = changed(draft, *step[:2])
    return worth_by(worths, draft) if len(tours(yard, draft)) == 1 else (len(paper),)


def other_paper(yard, worths, draft, rng):
    """A PAPER with alike REGRETS in any order and with any SPLITS."""
    def regret(crossing):
        return sorted(worths[crossing])[2] - sorted(worths[crossing])[1]

    left = open_ones(draft)
    rng.shuffle(left)
    steps = []
    for crossing in sorted(left, key=regret, reverse=True):
        three = worths[crossing]
        best, second, _ = sorted(range(3), key=lambda at: (-three[at], at))
        parts = holds(yard, changed(draft, crossing, best))
        if len(parts) == 1:
            steps.append((crossing, best, None))
        else:
            some = rng.sample(parts, rng.randrange(1, len(parts)))
            steps.append((crossing, second, tuple(sorted(sum(some, [])))))
        draft = changed(draft, *steps[-1][:2])
    return tuple(steps)


def cases():
    rng = random.Random(111)
    told = []
    yards = all_yards(1) + all_yards(2)[::9] + some_yards(112, (3, 3, 4, 5, 12, 40)) + [chain(40), ring(40)]
    for yard in yards:
        many = len(yard) // 2
        for kinds in KINDS:
            draft = some_draft(yard, rng.choice((many, many, many // 2, 0)), rng)
            told.append((yard, some_worths(many, rng, kinds), draft))
    return told


CASES = cases()


def spoilt(paper, rng):
    """PAPERS that are otherwise at some place, most of them none any more."""
    paper = list(paper)
    at = rng.randrange(len(paper))
    crossing, way, split = paper[at]
    ends = list(split or (0, 1))
    kinds = [
        (crossing, rng.randrange(3), split), (crossing, way, None), (crossing, way, tuple(ends[:-1])),
        (crossing, way, tuple(ends + [ends[-1] + 1])), (crossing, way, split, split), [crossing, way, split],
        (rng.randrange(len(paper)), way, split), (crossing, True, split), (crossing, way, list(ends)),
        (crossing, way, tuple(reversed(ends))), (crossing, 1, (0, 3, 4, 7)), None, (crossing, way),
    ]
    for kind in kinds:
        yield tuple(paper[:at] + [kind] + paper[at + 1:])
    other = rng.randrange(len(paper))
    paper[at], paper[other] = paper[other], paper[at]
    yield tuple(paper)
    yield tuple(paper[:at] + paper[at + 1:])
    yield tuple(paper + paper[at:at + 1])


class CheckGoingTest(unittest.TestCase):
    def test_by_hand(self):
        self.assertEqual(check_going(ONE, ((5, 3, 1),), ((0, 1, (0, 1)),)), 3)
        self.assertEqual(check_going(ONE, ((5, 3, 1),), ((0, 1, (2, 3)),)), 3)
        self.assertEqual(check_going(TWO, FIVE, PAPER), 12)
        self.assertEqual(check_going(TWO, FIVE, (PAPER[0], (0, 1, (1, 2, 5, 6)))), 12)
        self.assertEqual(check_going(TWO, FIVE, ((0, 2, None),), draft=(None, 1)), 9)
        self.assertEqual(check_going(TWO, FIVE, (), draft=(1, 0)), 5)

    def test_of_what_going_tells(self):
        for yard, worths, draft in CASES:
            told = check_going(yard, worths, going(yard, worths, draft=draft), draft=draft)
            self.assertEqual(told, greatest_worth(yard, worths, draft=draft))
            if len(open_ones(draft)) < 6:
                self.assertEqual(told, most_worth(yard, worths, draft))

    def test_of_other_good_papers(self):
        rng = random.Random(113)
        unlike = 0
        for yard, worths, draft in CASES:
            for _ in range(3):
                paper = other_paper(yard, worths, draft, rng)
                told = check_going(yard, worths, paper, draft=draft)
                self.assertEqual(told, greatest_worth(yard, worths, draft=draft))
                unlike += paper != going(yard, worths, draft=draft)
        self.assertGreater(unlike, 50)

    def test_alike_regrets_in_any_order(self):
        worths = ((0, 0, 0), (3, 3, 1), (7, 7, 7), (-1, -1, -2))
        for order in itertools.permutations(range(4)):
            paper = other_paper(ring(4), worths, (None,) * 4, random.Random(0))
            self.assertEqual(check_going(ring(4), worths, paper), most_worth(ring(4), worths))
            draft, steps = (None,) * 4, []
            for crossing in order:
                parts = holds(ring(4), changed(draft, crossing, 0))
                step = (crossing, 0, None) if len(parts) == 1 else (crossing, 1, tuple(parts[-1]))
                draft = changed(draft, *step[:2])
                steps.append(step)
            self.assertEqual(check_going(ring(4), worths, tuple(steps)), most_worth(ring(4), worths))

    def test_papers_good_and_bad_as_the_words_have_them(self):
        rng = random.Random(114)
        bad = good = 0
        for yard, worths, draft in CASES:
            if open_ones(draft):
                papers = [other_paper(yard, worths, draft, rng) for _ in range(2)]
                for paper in [other for paper in papers for other in spoilt(paper, rng)]:
                    want = paper_place(yard, worths, draft, paper)
                    if type(want) is tuple:
                        bad += 1
                        with self.subTest(repr(paper)[:200]), refused(self, BadPaper, place=want):
                            check_going(yard, worths, paper, draft=draft)
                    else:
                        good += 1
                        self.assertEqual(check_going(yard, worths, paper, draft=draft), want)
                        self.assertEqual(want, greatest_worth(yard, worths, draft=draft))
        self.assertGreater(bad, 500)
        self.assertGreater(good, 50)

    def test_all_papers_of_two_crossings(self):
        # of several WORTHS; SPLITS are None or those of one crossing's joined ends
        splits = [None, (0, 3, 4, 7), (1, 2, 5, 6), (0, 1, 4, 5), (2, 3, 6, 7), (0, 2, 4, 6), (0, 1, 2, 3)]
        steps = [(crossing, way, split) for crossing in range(2) for way in range(3) for split in splits]
        for worths in (FIVE, (ZERO, ZERO), ((0, 0, 1), (0, 1, 0)), ((1, 0, 0), (1, 0, 0))):
            for paper in itertools.product(steps, repeat=2):
                want = paper_place(TWO, worths, (None, None), paper)
                if type(want) is tuple:
                    with refused(self, BadPaper, place=want):
                        check_going(TWO, worths, paper)
                else:
                    self.assertEqual(check_going(TWO, worths, paper), want)


class BadPaperTest(unittest.TestCase):
    def test_of_no_tuple_of_as_many_things_as_are_open(self):
        for thing in anything() + [list(PAPER), PAPER[:1], PAPER + PAPER[:1], (), "2d 0c", (None,) * 3, (HUGE,)]:
            if type(thing) is not tuple or len(thing) != 2:
                with self.subTest(repr(thing)[:80]), refused(self, BadPaper, place=()):
                    check_going(TWO, FIVE, thing)
        for thing in anything() + [PAPER, []]:
            if thing != () or type(thing) is not tuple:
                with refused(self, BadPaper, place=()):
                    check_going(TWO, FIVE, thing, draft=(1, 2))
        with refused(self, BadPaper, place=()):
            check_going(TWO, FIVE, PAPER, draft=(None, 2))

    def test_of_what_is_no_row(self):
        things = anything() + [
            [1, 2, None], (1, 2), (1, 2, None, None), "12-", (2, 2, None), (-1, 2, None), (1, 3, None),
            (True, 2, None), (1, "d", None), (len, 2, None), (1, True, None), (None, 2, None),
            ((1,), 2, None), (HUGE, 2, None), (1, HUGE, None), (1, -HUGE, None), ([1], [2], [None]),
        ]
        for thing in things:
            with self.subTest(repr(thing)[:80]):
                with refused(self, BadPaper, place=(0,)):
                    check_going(TWO, FIVE, (thing, PAPER[1]))
                with refused(self, BadPaper, place=(1,)):
                    check_going(TWO, FIVE, (PAPER[0], thing))

    def test_of_a_crossing_that_is_not_open_any_more(self):
        with refused(self, BadPaper, place=(1,)):
            check_going(TWO, FIVE, (PAPER[0], PAPER[0]))
        with refused(self, BadPaper, place=(0,)):
            check_going(TWO, FIVE, ((1, 2, None),), draft=(None, 1))

    def test_of_a_regret_above_that_of_the_row_ahead(self):
        with refused(self, BadPaper, place=(1,)):
            check_going(TWO, FIVE, ((0, 2, None), (1, 2, None)))
        paper = ((2, 1, None), (0, 2, None), (1, 2, None))
        worths = ((0, 0, 3), (0, 0, 3), (0, 4, 0))
        self.assertEqual(check_going(chain(3), worths, paper), 10)
        for order, place in (((0, 2, 1), 1), ((2, 1, 0), None), ((0, 1, 2), 2), ((1, 2, 0), 1)):
            told = tuple(sorted(paper, key=lambda step: order.index(step[0])))
            if place is None:
                self.assertEqual(check_going(chain(3), worths, told), 10)
            else:
                with refused(self, BadPaper, place=(place,)):
                    check_going(chain(3), worths, told)

    def test_of_a_way_that_is_not_as_told(self):
        for way, split in ((0, None), (1, None), (2, (0, 1, 4, 5)), (0, (0, 1, 4, 5)), (1, (0, 1, 4, 5)), (2, ())):
            with refused(self, BadPaper, place=(0,)):
                check_going(TWO, FIVE, ((1, way, split), PAPER[1]))
        for way, split in ((0, None), (1, None), (0, (0, 3, 4, 7)), (2, (0, 3, 4, 7)), (1, ())):
            with refused(self, BadPaper, place=(1,)):
                check_going(TWO, FIVE, (PAPER[0], (0, way, split)))
        # the LAST one is never as told, if it be worth as much
        with refused(self, BadPaper, place=(0,)):
            check_going(ONE, (ZERO,), ((0, 2, (0, 1)),))
        self.assertEqual(check_going(ONE, (ZERO,), ((0, 1, (0, 1)),)), 0)

    def test_of_a_split_that_is_not_as_told(self):
        good = ((0, 3, 4, 7), (1, 2, 5, 6))
        splits = anything() + list(itertools.combinations(range(8), 4)) + [
            (0, 3, 4), (0, 4, 3, 7), [0, 3, 4, 7], (0, 3, 4, 7, 7), (0, 0, 3, 4, 7), tuple(range(8)), "0a 0d",
            (False, 3, 4, 7), (0, 3, 4, HUGE),
        ]
        for split in splits:
            if split not in good or any(type(end) is bool for end in split):
                with self.subTest(repr(split)[:80]), refused(self, BadPaper, place=(1,)):
                    check_going(TWO, FIVE, (PAPER[0], (0, 1, split)))
            else:
                self.assertEqual(check_going(TWO, FIVE, (PAPER[0], (0, 1, split))), 12)

    def test_of_more_rounds_in_the_end(self):
        for draft, paper in (
            (None, ((1, 2, None), (0, 2, None))), ((2, None), ((1, 2, None),)), ((None, 2), ((0, 2, None),)),
        ):
            with refused(self, BadPaper, place=(len(paper),)):
                check_going(TWO, FIVE, paper, draft=draft)
        with refused(self, BadPaper, place=(1,)):
            check_going(ONE, ((5, 3, 1),), ((0, 0, None),))
        with refused(self, BadPaper, place=(40,)):
            check_going(chain(40), ((1, 0, 0),) * 40, tuple((crossing, 0, None) for crossing in range(40)))

    def test_the_first_row_is_told(self):
        with refused(self, BadPaper, place=(0,)):
            check_going(TWO, FIVE, (None, None))
        with refused(self, BadPaper, place=(1,)):
            check_going(chain(3), (ZERO,) * 3, ((0, 1, tuple(range(2))), None, (2, 0, None)))

    def test_nothing_handed_in_is_changed(self):
        paper = ([1, 2, {3: [4]}], [[]])
        with refused(self, BadPaper, place=(0,)):
            check_going(TWO, FIVE, paper)
        self.assertEqual(paper, ([1, 2, {3: [4]}], [[]]))


class RefusedTest(unittest.TestCase):
    def test_in_order(self):
        def call(yard, worths, draft, paper):
            check_going(yard, worths, paper, draft=draft)

        for kind in range(24):
            bad = [BAD_YARDS[kind % 8], BAD_WORTHS[kind % 7 % 8], BAD_DRAFTS[kind % 12], (None, BadPaper(()))]
            check_order(self, call, (TWO, FIVE, None), bad)

    def test_names_and_arguments(self):
        check_interface(self, goingpapers, (("check_going", "yard, worths, paper, *, draft=None"),))
        with self.assertRaises(TypeError):
            check_going(TWO, FIVE, PAPER, None)


if __name__ == "__main__":
    unittest.main()
