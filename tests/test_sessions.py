import inspect
import itertools
import random
import unittest

from oneround import sessions
from oneround.errors import BadDeed, BadWorths, BadYard, Barred, Nothing, OutOfPlace, TooMany
from oneround.goings import greatest, greatest_worth
from oneround.sessions import Session
from oneround.yards import is_yard, put_across, sewn_out
from tests.samples import (
    BAD_WORTHS, BAD_YARDS, HUGE, MOST, TWO, all_yards, anything, chain, changed, check_order, grown_yard, holds,
    loose_yard, most_worth, nest_of_itself, refused, ring, some_worths, some_yards, tours, worth_by,
)

ONE = ((0, 1), (2, 3))
FIVE = ((0, 5, 9), (0, 0, 7))
ZERO = (0, 0, 0)
KINDS = ((0,), (0, 1), (-2, -1, 0, 1, 2), (-MOST, 1 - MOST, 0, MOST - 1, MOST), range(-99, 99))
WORDS = ("worth", "hold", "loose", "cross", "sew")


def state(session):
    return session.yard(), session.worths(), session.held(), session.kept()


def some_deed(session, rng, words=WORDS):
    """A DEED that is one by its form, if perhaps one that can't be."""
    many = len(session)
    word = rng.choice(words)
    crossing, way = rng.randrange(many), rng.randrange(3)
    three = tuple(rng.choice(rng.choice(KINDS)) for _ in range(3))
    return {
        "worth": (word, crossing, three), "hold": (word, crossing, way), "loose": (word, crossing),
        "cross": (word, rng.randrange(2 * many), rng.randrange(2 * many), three), "sew": (word, crossing, way),
    }[word]


def without(things, number):
    return things[:number] + things[number + 1:]


def refusal(before, deed):
    """The error that is due for a DEED that is one by its form; None of one that can be."""
    yard, _, held, _ = before
    if deed[0] in ("hold", "sew") and len(holds(yard, changed(held, deed[1], deed[2]))) > 1:
        return Barred(deed[2])
    if deed[0] == "loose" and held[deed[1]] is None or deed[0] == "sew" and len(held) == 1:
        return OutOfPlace(())
    return TooMany(41) if deed[0] == "cross" and len(held) == 40 else None


def best_of(yard, worths, held, kept, crossing):
    """KEPT behind a DEED, all that may be gone round one by one."""
    turns = [(at, way) for at in range(len(kept)) for way in range(3) if way != kept[at]]
    here = [turn for turn in turns if turn[0] == crossing]
    tried = [kept] + [changed(kept, *turn) for turn in here]
    tried += [changed(changed(kept, *turn), *other) for turn in here for other in turns if other[0] != crossing]
    told = []
    for setting in tried:
        if all(way in (None, new) for way, new in zip(held, setting)) and len(tours(yard, setting)) == 1:
            unlike = sum(one != other for one, other in zip(setting, kept))
            told.append((-worth_by(worths, setting), unlike, setting))
    return min(told)[2]


def behind(before, deed):
    """What is there behind a DEED, and what is TURNED: by the words."""
    yard, worths, held, kept = before
    word, crossing = deed[0], deed[1]
    if word == "cross":
        crossing = len(held)
        yard, worths = put_across(yard, deed[1], deed[2]), worths + (deed[3],)
        held, kept = held + (None,), kept + (1,)
    elif word == "worth":
        worths = changed(worths, crossing, deed[2])
    else:
        held = changed(held, crossing, None if word == "loose" else deed[2])
    new = best_of(yard, worths, held, kept, crossing)
    if word == "sew":
        yard = sewn_out(yard, crossing, deed[2])
        worths, held, kept, new = (without(things, crossing) for things in (worths, held, kept, new))
    return (yard, worths, held, new), tuple((at, way) for at, way in enumerate(new) if way != kept[at])


def some_sessions(seed, counts):
    rng = random.Random(seed)
    told = []
    for many in counts:
        for make in (grown_yard, loose_yard):
            told.append(Session(make(many, rng), some_worths(many, rng, rng.choice(KINDS))))
    return told


class NewTest(unittest.TestCase):
    def test_all_is_open_and_the_greatest_is_kept(self):
        rng = random.Random(171)
        for yard in all_yards(1) + all_yards(2)[::9] + some_yards(172, (3, 9, 40)) + [chain(40), ring(40)]:
            worths = some_worths(len(yard) // 2, rng, rng.choice(KINDS))
            session = Session(yard, worths)
            self.assertEqual(state(session), (yard, worths, (None,) * len(worths), greatest(yard, worths)))
            self.assertEqual(session.worth(), greatest_worth(yard, worths))
            self.assertEqual(session.log(), [])
            self.assertEqual(len(session), len(worths))

    def test_by_hand(self):
        session = Session(TWO, FIVE)
        self.assertEqual(state(session), (TWO, FIVE, (None, None), (1, 2)))
        self.assertEqual((session.worth(), len(session)), (12, 2))
        self.assertEqual((str(session), repr(session)), ("2 crossings, worth 12", "Session(2 crossings, worth 12)"))
        self.assertEqual(str(Session(ONE, ((0, -5, -5),))), "1 crossings, worth -5")
        self.assertEqual(repr(Session(ONE, (ZERO,))), "Session(1 crossings, worth 0)")
        told = str(Session(chain(40), ((0, MOST, 0),) * 40))
        self.assertEqual(told, "40 crossings, worth 4" + "0" * 31)

    def test_refused(self):
        for kind in range(56):
            check_order(self, Session, (TWO, FIVE), [BAD_YARDS[kind % 8], BAD_WORTHS[kind % 7]])
        for thing in anything():
            with refused(self, BadYard, place=(0,) if type(thing) is tuple and len(thing) == 2 else ()):
                Session(thing, FIVE)
            if type(thing) is not tuple or len(thing) != 2:
                with refused(self, BadWorths, place=()):
                    Session(TWO, thing)

    def test_interface(self):
        self.assertEqual(Session.__module__, "oneround.sessions")
        for name, arguments in (
            ("__init__", "self, yard, worths"), ("do", "self, *, deed"), ("yard", "self"), ("worths", "self"),
            ("held", "self"), ("kept", "self"), ("worth", "self"), ("log", "self"), ("undo", "self"), ("copy", "self"),
            ("__eq__", "self, other"), ("__len__", "self"), ("__str__", "self"), ("__repr__", "self"),
        ):
            self.assertEqual(str(inspect.signature(vars(Session)[name])), f"({arguments})")
        with self.assertRaises(TypeError):
            Session(TWO, FIVE).do(("loose", 0))
        self.assertEqual([name for name in vars(sessions) if name == "Session"], ["Session"])


class DeedTest(unittest.TestCase):
    def check_deeds(self, session, many, rng, words=WORDS):
        """Some DEEDS, each against the words; how many were refused."""
        refusals = 0
        for _ in range(many):
            before, log, deed = state(session), session.log(), some_deed(session, rng, words)
            error = refusal(before, deed)
            if error is None:
                want, turns = behind(before, deed)
                told = session.do(deed=deed)
                self.assertEqual((state(session), told), (want, turns), deed)
                self.assertEqual({type(told)} | {type(turn) for turn in told}, {tuple})
                self.assertEqual(session.log(), log + [(deed, told)])
                self.check_greatest(session)
            else:
                refusals += 1
                with refused(self, type(error), **vars(error)):
                    session.do(deed=deed)
                self.assertEqual((state(session), session.log()), (before, log))
        return refusals

    def check_greatest(self, session):
        yard, worths, held, kept = state(session)
        self.assertTrue(is_yard(yard))
        self.assertEqual(len(tours(yard, kept)), 1)
        self.assertTrue(all(way in (None, new) for way, new in zip(held, kept)))
        self.assertEqual(session.worth(), worth_by(worths, kept))
        self.assertEqual(session.worth(), greatest_worth(yard, worths, draft=held))
        if len(held) < 5:
            self.assertEqual(session.worth(), most_worth(yard, worths, held))

    def test_by_hand(self):
        session = Session(TWO, FIVE)
        self.assertEqual(session.do(deed=("worth", 0, (9, 0, 0))), ((0, 0),))
        self.assertEqual(state(session), (TWO, ((9, 0, 0), FIVE[1]), (None, None), (0, 2)))
        self.assertEqual(session.do(deed=("hold", 0, 2)), ((0, 2), (1, 0)))
        self.assertEqual((session.held(), session.kept(), session.worth()), ((2, None), (2, 0), 0))
        self.assertEqual(session.do(deed=("hold", 0, 0)), ((0, 0), (1, 2)))
        self.assertEqual(session.do(deed=("hold", 1, 1)), ((1, 1),))
        self.assertEqual(session.held(), (0, 1))
        with refused(self, Barred, way=1):
            session.do(deed=("hold", 0, 1))
        self.assertEqual(session.do(deed=("hold", 0, 2)), ((0, 2),))
        self.assertEqual(session.do(deed=("loose", 1)), ())
        self.assertEqual(session.do(deed=("loose", 0)), ((0, 0), (1, 2)))
        self.assertEqual(session.worth(), 16)

    def test_cross_and_sew_by_hand(self):
        session = Session(ONE, ((0, 3, 4),))
        self.assertEqual(session.kept(), (2,))
        self.assertEqual(session.do(deed=("cross", 0, 1, (0, 0, 0))), ())
        self.assertEqual(session.yard(), ((0, 4), (1, 6), (2, 5), (3, 7)))
        self.assertEqual((session.worths(), session.held()), (((0, 3, 4), ZERO), (None, None)))
        self.assertEqual(session.kept(), (2, 1))
        self.assertEqual(session.do(deed=("cross", 0, 0, (0, 0, 7))), ())
        self.assertEqual(session.yard(), ((0, 8), (1, 6), (2, 5), (3, 7), (4, 11), (9, 10)))
        self.assertEqual(session.kept(), (2, 1, 1))
        self.assertEqual(session.do(deed=("worth", 2, (5, 0, 7))), ((2, 0),))
        with refused(self, Barred, way=2):
            session.do(deed=("sew", 2, 2))
        self.assertEqual(session.kept(), (2, 1, 0))
        # by WAY 1 at crossing 0 there is one ROUND, too; the others close up to 0 and 1
        self.assertEqual(session.do(deed=("sew", 0, 1)), ())
        self.assertEqual(session.yard(), ((0, 7), (1, 4), (2, 3), (5, 6)))
        self.assertEqual((session.worths(), session.held()), ((ZERO, (5, 0, 7)), (None, None)))
        self.assertEqual((session.kept(), session.worth(), len(session)), ((1, 0), 5, 2))
        self.assertEqual(session.do(deed=("hold", 0, 2)), ((0, 2),))
        self.assertEqual(session.do(deed=("cross", 2, 2, ZERO)), ())
        # what is turned beside the crossing SEWN OUT is told by its new number
        self.assertEqual(session.do(deed=("loose", 0)), ())
        self.assertEqual(session.kept(), (2, 0, 1))
        self.assertEqual([deed for deed, _ in session.log()][:4], [
            ("cross", 0, 1, ZERO), ("cross", 0, 0, (0, 0, 7)), ("worth", 2, (5, 0, 7)), ("sew", 0, 1),
        ])

    def test_what_is_turned_beside_the_one_sewn_out_by_hand(self):
        for crossing, turns, kept in ((0, ((0, 0),), (0, 1)), (1, (), (0, 1))):
            session = Session(ring(3), (ZERO, ZERO, (0, 1, 0)))
            self.assertEqual(session.kept(), (0, 1, 1))
            self.assertEqual(session.do(deed=("sew", crossing, 1)), turns)
            self.assertEqual(session.log(), [(("sew", crossing, 1), turns)])
            self.assertEqual((session.yard(), session.kept()), (ring(2), kept))

    def test_the_new_crossing_is_told_where_it_has_not_way_1(self):
        session = Session(ONE, ((0, 3, 4),))
        self.assertEqual(session.do(deed=("cross", 0, 0, (9, 0, 0))), ((1, 0),))
        session = Session(ONE, ((0, 3, 4),))
        self.assertEqual(session.do(deed=("cross", 0, 0, (0, 0, 9))), ())
        session = Session(ONE, ((0, 3, 4),))
        self.assertEqual(session.do(deed=("cross", 1, 0, (0, 0, 9))), ((0, 1), (1, 2)))

    def test_each_kind_on_small_yards(self):
        rng = random.Random(173)
        refusals = 0
        for yard in all_yards(1) + all_yards(2)[::6] + all_yards(3)[::1000]:
            session = Session(yard, some_worths(len(yard) // 2, rng, rng.choice(KINDS)))
            refusals += self.check_deeds(session, 14, rng, WORDS[:3] if rng.randrange(2) else WORDS)
        self.assertGreater(refusals, 50)

    def test_many_deeds_that_make_it_larger_and_less(self):
        rng = random.Random(174)
        for session in some_sessions(175, (1, 4, 7)):
            for words in (("cross",), WORDS, ("sew", "hold", "loose"), WORDS[:3] + ("cross",), WORDS):
                self.check_deeds(session, 12, rng, words)

    def test_forty_crossings(self):
        rng = random.Random(176)
        sized = [Session(yard, some_worths(40, rng, KINDS[at])) for at, yard in enumerate((chain(40), ring(40)))]
        for session in sized + some_sessions(177, (40,)):
            with refused(self, TooMany, many=41):
                session.do(deed=("cross", 0, 79, ZERO))
            for _ in range(40):
                before, deed = state(session), some_deed(session, rng, ("worth", "hold", "loose", "sew", "cross"))
                error = refusal(before, deed)
                if error is None:
                    turns = session.do(deed=deed)
                    self.check_greatest(session)
                    own = 1 if deed[0] != "sew" else 0
                    self.assertLessEqual(len(turns), 1 + own)
                    if deed[0] in ("worth", "hold", "loose") and len(turns) == 2:
                        self.assertIn(deed[1], [crossing for crossing, _ in turns])
                else:
                    with refused(self, type(error), **vars(error)):
                        session.do(deed=deed)

    def test_one_of_forty_crossings_against_the_words(self):
        rng = random.Random(178)
        for session in some_sessions(179, (36,)):
            self.check_deeds(session, 8, rng)

    def test_the_least_of_several_that_differ_at_fewest(self):
        # all is worth the same: nothing is turned that needn't be
        session = Session(chain(3), (ZERO,) * 3)
        self.assertEqual(session.do(deed=("worth", 1, (5, 5, 5))), ())
        self.assertEqual(session.kept(), (1, 1, 1))
        self.assertEqual(session.do(deed=("hold", 1, 2)), ((1, 2),))
        session = Session(ring(3), (ZERO,) * 3)
        kept = session.kept()
        self.assertEqual(kept, (0, 1, 1))
        self.assertEqual(session.do(deed=("hold", 0, 1)), ((0, 1), (1, 0)))
        session = Session(ring(3), ((0, 5, 0), ZERO, ZERO))
        self.assertEqual(session.kept(), (1, 0, 1))


class BadDeedTest(unittest.TestCase):
    def check_bad(self, deed, place, session=None):
        session = session or Session(TWO, FIVE)
        before = state(session)
        with self.subTest(repr(deed)[:80]), refused(self, BadDeed, place=place):
            session.do(deed=deed)
        self.assertEqual((state(session), session.log()), (before, []))

    def test_of_no_tuple_of_a_word_and_as_many_things(self):
        for deed in anything() + [
            (), ("worth",), ("worth", 0), ("worth", 0, ZERO, 0), ("hold",), ("hold", 0), ("hold", 0, 1, 2), ("loose",),
            ("loose", 0, 0), ("cross", 0, 0), ("cross", 0, 0, ZERO, 0), ("cross", 0, ZERO), ("sew", 0), ("sew", 0, 1, 2),
            ["hold", 0, 1], "hold", "loose 0", ("Hold", 0, 1), ("held", 0, 1), ("", 0, 1), ("hold ", 0, 1),
            (b"hold", 0, 1), (None, 0, 1), (0, 0, 1), (["hold"], 0, 1), (("hold",), 0, 1), ({"hold": 0}, 0, 1),
            ({}, 0), (nest_of_itself(), 0, 1), (HUGE, 0, 1), ("undo",), ("crossing", 0), (True, 0), {"hold": 0},
            [("hold", 0, 1)], (("hold", 0, 1),), (len, 0, 1), ("hold", None), ("loose", None, None),
        ]:
            self.check_bad(deed, ())

    def test_of_the_first_that_is_not_what_is_wanted_there(self):
        others = [thing for thing in anything() if thing not in (0, 1)] + ["0", "0a", (0,), [0], True, False]
        for thing in others + [2, 3, -2]:
            for deed in (("worth", thing, ZERO), ("hold", thing, 1), ("loose", thing), ("sew", thing, 1)):
                self.check_bad(deed, (1,))
                self.check_bad(deed[:2] + (None,) * (len(deed) - 2), (1,))
        for thing in others + [4, -4]:
            self.check_bad(("cross", thing, 0, ZERO), (1,))
            self.check_bad(("cross", thing, thing, thing), (1,))
            self.check_bad(("cross", 3, thing, ZERO), (2,))
            self.check_bad(("cross", 3, thing, None), (2,))
        for thing in others + [3, "b"]:
            for word in ("hold", "sew"):
                self.check_bad((word, 1, thing), (2,))
        for thing in anything() + [
            (0, 0), (0, 0, 0, 0), [0, 0, 0], (0, 0, True), (None, 0, 0), (0, MOST + 1, 0), (0, 0, -MOST - 1), "000",
            (HUGE, 0, 0), (0, (0,), 0), ("0", "0", "0"), 0, 1, ((0, 0, 0),),
        ]:
            self.check_bad(("worth", 1, thing), (2,))
            self.check_bad(("cross", 0, 3, thing), (3,))

    def test_how_many_crossings_and_lines_there_are(self):
        for many in (1, 2, 40):
            session = Session(chain(many), (ZERO,) * many)
            self.check_bad(("loose", many), (1,), session)
            self.check_bad(("hold", many, 1), (1,), session)
            self.check_bad(("cross", 2 * many, 0, ZERO), (1,), session)
            self.check_bad(("cross", 2 * many - 1, 2 * many, ZERO), (2,), session)
            if many < 40:
                session.do(deed=("cross", 2 * many - 1, 2 * many - 1, (MOST, -MOST, MOST)))
                self.assertEqual(len(session), many + 1)

    def test_by_its_form_ahead_of_what_cannot_be(self):
        full = Session(chain(40), (ZERO,) * 40)
        self.check_bad(("cross", 0, 80, ZERO), (2,), full)
        self.check_bad(("cross", 0, 0, None), (3,), full)
        with refused(self, TooMany, many=41):
            full.do(deed=("cross", 0, 0, ZERO))
        only = Session(ONE, (ZERO,))
        self.check_bad(("sew", 1, 0), (1,), only)
        self.check_bad(("sew", 0, 3), (2,), only)


class CannotBeTest(unittest.TestCase):
    def check_refused(self, session, deed, kind, **fields):
        before, log = state(session), session.log()
        with refused(self, kind, **fields):
            session.do(deed=deed)
        self.assertEqual((state(session), session.log()), (before, log))

    def test_the_only_crossing(self):
        session = Session(ONE, ((5, 3, 1),))
        self.check_refused(session, ("sew", 0, 1), OutOfPlace, place=())
        self.check_refused(session, ("sew", 0, 2), OutOfPlace, place=())
        # what is BARRED is told ahead of that
        self.check_refused(session, ("sew", 0, 0), Barred, way=0)
        self.check_refused(session, ("hold", 0, 0), Barred, way=0)
        self.assertEqual(session.do(deed=("hold", 0, 2)), ((0, 2),))
        self.check_refused(session, ("sew", 0, 2), OutOfPlace, place=())

    def test_barred_is_asked_of_held_open_there(self):
        session = Session(TWO, FIVE)
        session.do(deed=("hold", 0, 0))
        session.do(deed=("hold", 1, 1))
        # whatever it had
        for word in ("hold", "sew"):
            self.check_refused(session, (word, 0, 1), Barred, way=1)
            self.check_refused(session, (word, 1, 0), Barred, way=0)
        session.do(deed=("loose", 1))
        self.assertEqual(session.do(deed=("hold", 0, 1)), ((0, 1),))
        self.assertEqual(session.kept(), (1, 2))

    def test_loose_of_an_open_one(self):
        session = Session(TWO, FIVE)
        for crossing in (0, 1):
            self.check_refused(session, ("loose", crossing), OutOfPlace, place=())
        session.do(deed=("hold", 1, 1))
        self.check_refused(session, ("loose", 0), OutOfPlace, place=())
        session.do(deed=("loose", 1))
        self.check_refused(session, ("loose", 1), OutOfPlace, place=())

    def test_all_ways_held_of_small_yards(self):
        for yard in all_yards(2)[::10]:
            for held in itertools.product((0, 1, 2), repeat=2):
                session = Session(yard, (ZERO, ZERO))
                for crossing, way in enumerate(held):
                    draft = changed(session.held(), crossing, way)
                    if len(holds(yard, draft)) == 1:
                        session.do(deed=("hold", crossing, way))
                        self.assertEqual(session.held(), draft)
                    else:
                        self.check_refused(session, ("hold", crossing, way), Barred, way=way)


class UndoTest(unittest.TestCase):
    def test_all_is_as_it_was_ahead_of_the_last_deed(self):
        rng = random.Random(181)
        for session in some_sessions(182, (1, 3, 6, 40)):
            seen = [(state(session), [])]
            for _ in range(25):
                deed = some_deed(session, rng)
                if refusal(state(session), deed) is None:
                    session.do(deed=deed)
                    seen.append((state(session), session.log()))
                    if rng.randrange(4) == 0:
                        self.assertIsNone(session.undo())
                        seen.pop()
                        self.assertEqual((state(session), session.log()), seen[-1])
            while len(seen) > 1:
                self.assertEqual((state(session), session.log()), seen.pop())
                self.assertIsNone(session.undo())
            self.assertEqual((state(session), session.log()), seen[0])
            with self.assertRaises(Nothing):
                session.undo()
            self.assertEqual((state(session), session.log()), seen[0])

    def test_nothing(self):
        session = Session(TWO, FIVE)
        with self.assertRaises(Nothing) as told:
            session.undo()
        self.assertIs(type(told.exception), Nothing)
        with refused(self, OutOfPlace, place=()):
            session.do(deed=("loose", 0))
        with self.assertRaises(Nothing):
            session.undo()

    def test_other_deeds_behind_it(self):
        session = Session(TWO, FIVE)
        session.do(deed=("hold", 0, 0))
        session.do(deed=("cross", 0, 1, ZERO))
        session.undo()
        turns = session.do(deed=("hold", 1, 1))
        self.assertEqual(session.log(), [(("hold", 0, 0), ((0, 0),)), (("hold", 1, 1), turns)])


class CopyTest(unittest.TestCase):
    def test_another_one_that_goes_on_by_itself(self):
        session = Session(TWO, FIVE)
        session.do(deed=("hold", 0, 0))
        other = session.copy()
        self.assertIs(type(other), Session)
        self.assertIsNot(other, session)
        self.assertEqual(other, session)
        self.assertEqual((state(other), other.log()), (state(session), session.log()))
        other.do(deed=("hold", 1, 1))
        self.assertEqual(session.held(), (0, None))
        self.assertEqual(len(session.log()), 1)
        session.undo()
        self.assertEqual(other.held(), (0, 1))
        self.assertEqual(len(other.log()), 2)
        other.undo()
        other.undo()
        self.assertEqual(other, session)
        with self.assertRaises(Nothing):
            other.undo()

    def test_of_larger_ones(self):
        rng = random.Random(183)
        for session in some_sessions(184, (5, 40)):
            for _ in range(10):
                deed = some_deed(session, rng)
                other = session.copy()
                if refusal(state(session), deed) is None:
                    self.assertEqual(session.do(deed=deed), other.do(deed=deed))
                    self.assertTrue(session == other)
                    other.undo()
                    self.assertEqual(len(session.log()), len(other.log()) + 1)


class SameTest(unittest.TestCase):
    def test_whatever_the_logs(self):
        one, other = Session(TWO, FIVE), Session(TWO, FIVE)
        self.assertTrue(one == other)
        self.assertFalse(one != other)
        one.do(deed=("worth", 0, FIVE[0]))
        self.assertTrue(one == other)
        one.do(deed=("hold", 0, 1))
        self.assertFalse(one == other)
        self.assertTrue(one != other)
        one.do(deed=("loose", 0))
        self.assertTrue(one == other)

    def test_each_part_counts(self):
        one = Session(ONE, (ZERO,))
        self.assertFalse(one == Session(((0, 3), (1, 2)), (ZERO,)))
        self.assertFalse(one == Session(ONE, ((0, 0, -1),)))
        other = Session(ONE, (ZERO,))
        other.do(deed=("hold", 0, 1))
        self.assertFalse(one == other)
        # the same but for what is KEPT
        other = Session(ONE, (ZERO,))
        other.do(deed=("hold", 0, 2))
        other.do(deed=("loose", 0))
        self.assertEqual(state(other)[:3], state(one)[:3])
        self.assertEqual((one.kept(), other.kept()), ((1,), (2,)))
        self.assertFalse(one == other)

    def test_of_what_is_no_session(self):
        session = Session(TWO, FIVE)
        for thing in anything() + [state(session), "Session(2 crossings, worth 12)"]:
            self.assertFalse(session == thing)
            self.assertTrue(session != thing)


class OwnTest(unittest.TestCase):
    def test_the_log_is_new_each_time(self):
        session = Session(TWO, FIVE)
        session.do(deed=("hold", 0, 0))
        told = session.log()
        told.append(None)
        told[0] = 7
        self.assertEqual(session.log(), [(("hold", 0, 0), ((0, 0),))])
        self.assertIs(type(session.log()), list)
        self.assertEqual({type(row) for row in session.log()}, {tuple})

    def test_nothing_handed_in_is_changed(self):
        deed = ("worth", 0, [1, {2: [3]}])
        with refused(self, BadDeed, place=(2,)):
            Session(TWO, FIVE).do(deed=deed)
        self.assertEqual(deed, ("worth", 0, [1, {2: [3]}]))


if __name__ == "__main__":
    unittest.main()
