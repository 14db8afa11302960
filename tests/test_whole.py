"""What the document promises over the whole program: each part tells the same as the others."""

import random
import unittest

from oneround.drafts import barred, can_be_one, filled, ones
from oneround.exchanges import done, path
from oneround.goingpapers import check_going
from oneround.goings import going, greatest, greatest_worth, price
from oneround.ladders import better, greatest_ones, ladder, near
from oneround.leads import check_lead, first_lead
from oneround.names import draft_renamed, renamed, setting_renamed
from oneround.papertexts import paper_text, read_paper, read_worths, worths_text
from oneround.rounds import many_rounds, rounds_of
from oneround.sessions import Session
from oneround.splices import parted, spliced, twins
from oneround.tables import rounds_by, table_of, table_turned
from oneround.tallies import tally
from oneround.worths import worth_of
from oneround.yards import far_ends, put_across, sewn_out
from oneround.yardtexts import read_yard, yard_text
from tests.samples import (
    MOST, all_ways, all_yards, chain, changed, grown_yard, loose_yard, most_worth, open_ones, ring, some_draft,
    some_names, some_setting, some_ways, some_worths, some_yards, tours, worths_renamed,
)

KINDS = ((0,), (-2, -1, 0, 1, 2), (-MOST, 1 - MOST, 0, MOST - 1, MOST), range(-99, 99))


def cases():
    """Pairs of a YARD and WORTHS."""
    rng = random.Random(191)
    yards = all_yards(1) + all_yards(2)[::20] + some_yards(192, (3, 5, 9, 22, 40)) + [chain(40), ring(40), ring(7)]
    return [(yard, some_worths(len(yard) // 2, rng, rng.choice(KINDS))) for yard in yards]


CASES = cases()


def worth_behind_deeds(yard, worths, rng):
    """What a SESSION keeps in which all was HELD otherwise and loosed again."""
    session = Session(yard, worths)
    for crossing in rng.sample(range(len(session)), len(session)):
        tried = [changed(session.held(), crossing, way) for way in range(3) if way != session.kept()[crossing]]
        ways = [held[crossing] for held in tried if can_be_one(yard, held)]
        session.do(deed=("hold", crossing, rng.choice(ways)))
    for crossing in rng.sample(range(len(session)), len(session)):
        session.do(deed=("loose", crossing))
    return session.worth()


def worth_behind_a_path(yard, worths, rng):
    """What comes of a PATH to the GREATEST, told by its TABLES."""
    setting = some_setting(yard, rng)
    table = table_of(yard, setting)
    for turns in path(yard, setting, greatest(yard, worths)):
        setting = done(yard, setting, turns)
        table = table_turned(table, turns)
    return worth_of(yard, worths, table[0]), table == table_of(yard, setting)


class GreatestWorthTest(unittest.TestCase):
    def test_it_is_the_same_whichever_way_one_comes_to_it(self):
        rng = random.Random(193)
        for yard, worths in CASES:
            want = greatest_worth(yard, worths)
            if len(worths) < 6:
                self.assertEqual(want, most_worth(yard, worths))
            self.assertEqual(worth_of(yard, worths, ladder(yard, worths, some_setting(yard, rng))[-1]), want)
            self.assertEqual(worth_of(yard, worths, ladder(yard, worths, filled(yard, (None,) * len(worths)))[-1]), want)
            self.assertEqual(worth_behind_deeds(yard, worths, rng), want)
            self.assertEqual(worth_behind_a_path(yard, worths, rng), (want, True))
            self.assertEqual(check_going(yard, worths, going(yard, worths)), want)
            text = paper_text(going(yard, worths))
            if len(text) <= 20000:
                read = read_worths(worths_text(worths))
                self.assertEqual(check_going(read_yard(yard_text(yard)), read, read_paper(text)), want)

    def test_nothing_near_the_greatest_is_worth_more(self):
        for yard, worths in CASES:
            setting = greatest(yard, worths)
            self.assertIsNone(better(yard, worths, setting))
            self.assertEqual(ladder(yard, worths, setting), (setting,))
            most = max(worth_of(yard, worths, other) for other in near(yard, setting)[:200])
            self.assertLessEqual(most, greatest_worth(yard, worths))

    def test_a_session_tells_prices(self):
        rng = random.Random(194)
        for yard, worths in CASES:
            session = Session(yard, worths)
            for crossing in rng.sample(range(len(worths)), min(4, len(worths))):
                for way in range(3):
                    told = price(yard, worths, crossing, way)
                    if told is None:
                        self.assertEqual(barred(yard, (None,) * len(worths))[crossing], way)
                    else:
                        session.do(deed=("hold", crossing, way))
                        self.assertEqual(session.worth(), greatest_worth(yard, worths) - told)
                        session.undo()

    def test_a_worth_raised_by_more_than_its_price_raises_it_by_what_is_above(self):
        rng = random.Random(195)
        for yard, worths in CASES:
            session = Session(yard, worths)
            for crossing in rng.sample(range(len(worths)), min(3, len(worths))):
                for way in range(3):
                    told = price(yard, worths, crossing, way)
                    for more in (0, 1, told or 0, (told or 0) + 1, (told or 0) + 77):
                        three = changed(worths[crossing], way, worths[crossing][way] + more)
                        if max(three) <= MOST:
                            above = 0 if told is None else max(0, more - told)
                            session.do(deed=("worth", crossing, three))
                            self.assertEqual(session.worth(), greatest_worth(yard, worths) + above)
                            session.undo()

    def test_first_leads_and_paths_come_to_one_round(self):
        rng = random.Random(196)
        for yard, worths in CASES:
            setting = some_ways(len(worths), rng, (0, 1, 2))
            lead = first_lead(yard, setting)
            self.assertIsNone(check_lead(yard, setting, lead))
            setting = done(yard, setting, lead)
            self.assertEqual(many_rounds(yard, setting), 1)
            self.assertEqual(rounds_by(table_of(yard, setting), greatest(yard, worths)), 1)


class RenamedTest(unittest.TestCase):
    def test_all_goes_over(self):
        rng = random.Random(197)
        for yard, worths in CASES:
            names = some_names(len(worths), rng)
            new_yard, new_worths = renamed(yard, names), worths_renamed(names, worths)
            self.assertEqual(greatest_worth(new_yard, new_worths), greatest_worth(yard, worths))
            setting = some_setting(yard, rng)
            new = setting_renamed(yard, names, setting)
            over = [setting_renamed(yard, names, other) for other in near(yard, setting)[:300]]
            if len(over) < 300:
                self.assertEqual(tuple(sorted(over)), near(new_yard, new))
            top = [worth_of(at, by, ladder(at, by, one)[-1])
                   for at, by, one in ((yard, worths, setting), (new_yard, new_worths, new))]
            self.assertEqual(top[0], top[1])
            self.check_table(yard, names, setting, table_of(new_yard, new))
            draft = some_draft(yard, 5, rng)
            new_draft = draft_renamed(yard, names, draft)
            self.assertEqual(tally(new_yard, draft=new_draft), tally(yard, draft=draft))
            over = [setting_renamed(yard, names, one) for one in greatest_ones(yard, worths, draft=draft)]
            self.assertEqual(greatest_ones(new_yard, new_worths, draft=new_draft), tuple(sorted(over)))

    def check_table(self, yard, names, setting, told):
        old_setting, outers, rows = table_of(yard, setting)
        called = [names[4 * crossing] // 4 for crossing in range(len(setting))]
        want = [None] * len(setting)
        for crossing, others in enumerate(rows):
            want[called[crossing]] = tuple(sorted(called[other] for other in others))
        over = (setting_renamed(yard, names, old_setting), setting_renamed(yard, names, outers), tuple(want))
        self.assertEqual(told, over)


class SplicedTest(unittest.TestCase):
    def test_all_goes_over(self):
        rng = random.Random(198)
        for make in (grown_yard, loose_yard):
            for one, two in ((1, 1), (1, 39), (3, 2), (20, 20), (7, 30)):
                yard, other = make(one, rng), make(two, rng)
                whole = spliced(yard, other, rng.randrange(2 * one), rng.randrange(2 * two))
                worths, others = some_worths(one, rng, KINDS[1]), some_worths(two, rng, KINDS[3])
                both = greatest_worth(yard, worths) + greatest_worth(other, others)
                self.assertEqual(greatest_worth(whole, worths + others), both)
                self.assertEqual(Session(whole, worths + others).worth(), both)
                here, there = some_setting(yard, rng), some_setting(other, rng)
                self.assertEqual(worth_of(whole, worths + others, ladder(whole, worths + others, here + there)[-1]), both)
                first, second = table_of(yard, here), table_of(other, there)
                behind = tuple(tuple(one + crossing for crossing in others) for others in second[2])
                want = (first[0] + second[0], first[1] + second[1], first[2] + behind)
                self.assertEqual(table_of(whole, here + there), want)

    def test_parted_again_each_part_has_its_own(self):
        for yard, worths in CASES:
            for pair in twins(yard)[:3]:
                told = 0
                for part, crossings in parted(yard, pair):
                    told += greatest_worth(part, tuple(worths[crossing] for crossing in crossings))
                self.assertEqual(told, greatest_worth(yard, worths))


class SewnTest(unittest.TestCase):
    def without(self, things, crossing):
        return things[:crossing] + things[crossing + 1:]

    def test_all_goes_over(self):
        rng = random.Random(199)
        for yard, worths in CASES:
            if len(worths) > 1:
                draft = some_draft(yard, 4, rng)
                setting = filled(yard, draft)
                crossing = rng.randrange(len(worths))
                held = changed(draft, crossing, setting[crossing])
                left = sewn_out(yard, crossing, setting[crossing])
                left_draft = self.without(held, crossing)
                self.assertEqual(ones(left, draft=left_draft), ones(yard, draft=held))
                self.assertEqual(tally(left, draft=left_draft), tally(yard, draft=held))
                left_worths = self.without(worths, crossing)
                own = worths[crossing][setting[crossing]]
                told = greatest_worth(left, left_worths, draft=left_draft) + own
                self.assertEqual(told, greatest_worth(yard, worths, draft=held))
                want = tuple(self.without(one, crossing) for one in greatest_ones(yard, worths, draft=held))
                self.assertEqual(greatest_ones(left, left_worths, draft=left_draft), want)
                self.check_table(yard, left, setting, crossing)
                self.check_session(yard, worths, crossing, setting[crossing])

    def check_table(self, yard, left, setting, crossing):
        old, outers, rows = table_of(yard, setting)
        rows = [tuple(at - (at > crossing) for at in others if at != crossing) for others in rows]
        want = (old, outers, tuple(rows))
        self.assertEqual(table_of(left, self.without(setting, crossing)), tuple(
            self.without(part, crossing) for part in want
        ))

    def check_session(self, yard, worths, crossing, way):
        session = Session(yard, worths)
        session.do(deed=("sew", crossing, way))
        self.assertEqual(session.yard(), sewn_out(yard, crossing, way))
        self.assertEqual(session.worth(), greatest_worth(session.yard(), self.without(worths, crossing)))

    def test_put_across_it_is_as_if_it_were_not_there_by_way_1(self):
        rng = random.Random(200)
        for yard, worths in CASES:
            many = len(worths)
            if many < 40:
                line, other = rng.randrange(2 * many), rng.randrange(2 * many)
                wider = put_across(yard, line, other)
                draft = (None,) * many + (1,)
                told = greatest_worth(wider, worths + ((3, 5, 4),), draft=draft)
                self.assertEqual(told, greatest_worth(yard, worths) + 5)
                setting = some_ways(many, rng, (0, 1, 2))
                self.assertEqual(many_rounds(wider, setting + (1,)), many_rounds(yard, setting))


class RingTest(unittest.TestCase):
    def rounds_told(self, setting):
        """How many ROUNDS there are in a ring."""
        back = setting.count(0)
        if back == 0:
            return 1 if setting.count(2) % 2 == 1 else 2
        return back

    def test_small_rings(self):
        for many in range(1, 7):
            for setting in all_ways(many):
                self.assertEqual(many_rounds(ring(many), setting), self.rounds_told(setting))

    def test_large_rings(self):
        rng = random.Random(201)
        for many in (7, 13, 39, 40):
            for kinds in ((1, 2), (0, 1, 2), (1,), (2,), (0,), (0, 1, 1, 1, 2, 2, 2) * 2 + (1,)):
                for _ in range(6):
                    setting = some_ways(many, rng, kinds)
                    told = self.rounds_told(setting)
                    self.assertEqual(many_rounds(ring(many), setting), told)
                    table = table_of(ring(many), (0,) + (1,) * (many - 1))
                    self.assertEqual(rounds_by(table, setting), told)
                    self.assertEqual(can_be_one(ring(many), setting), told == 1)

    def test_a_tally_of_a_ring(self):
        for many in range(1, 8):
            counts = {}
            for setting in all_ways(many):
                counts[self.rounds_told(setting)] = counts.get(self.rounds_told(setting), 0) + 1
            self.assertEqual(tally(ring(many)), tuple(sorted(counts.items())))

    def test_with_one_that_turns_back_always_one(self):
        for at in range(40):
            setting = tuple(0 if crossing == at else (crossing * 7 % 3 or 1) for crossing in range(40))
            if setting.count(0) == 1:
                self.assertEqual(len(rounds_of(ring(40), setting)), 1)


class OwnTest(unittest.TestCase):
    def test_what_is_told_is_the_asker_s_own(self):
        for yard, worths in CASES[::4]:
            draft = (None,) * len(worths)
            before = (barred(yard, draft), far_ends(yard))
            told = barred(yard, draft)
            told.clear()
            far_ends(yard).clear()
            self.assertEqual((barred(yard, draft), far_ends(yard)), before)
            session = Session(yard, worths)
            session.do(deed=("worth", 0, (0, 0, 0)))
            session.log().clear()
            self.assertEqual(len(session.log()), 1)

    def test_what_was_told_stays_as_it_was(self):
        for yard, worths in CASES[::4]:
            session = Session(yard, worths)
            told = (session.yard(), session.worths(), session.held(), session.kept(), session.log())
            before = repr(told)
            session.do(deed=("worth", 0, (3, -4, 5)))
            session.do(deed=("hold", 0, session.kept()[0]))
            self.assertEqual(repr(told), before)
            session.undo()
            session.undo()
            self.assertEqual(repr((session.yard(), session.worths(), session.held(), session.kept(), [])), before)


class OpenTest(unittest.TestCase):
    def test_a_greatest_one_fills_each_draft(self):
        rng = random.Random(202)
        for yard, worths in CASES:
            draft = some_draft(yard, rng.randrange(8), rng)
            told = greatest_ones(yard, worths, draft=draft)
            self.assertIn(greatest(yard, worths, draft=draft), told)
            self.assertLessEqual(len(told), ones(yard, draft=draft))
            for crossing in open_ones(draft):
                prices = [price(yard, worths, crossing, way, draft=draft) for way in range(3)]
                has = {one[crossing] for one in told}
                self.assertEqual({way for way in range(3) if prices[way] == 0}, has)
            for one in told[:5]:
                self.assertEqual(len(tours(yard, one)), 1)


if __name__ == "__main__":
    unittest.main()
