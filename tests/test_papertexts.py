import itertools
import random
import unittest

from oneround import papertexts
from oneround.errors import BadText
from oneround.goingpapers import check_going
from oneround.goings import going, greatest_worth
from oneround.papertexts import MOST_PAPER_SIGNS, paper_text, read_paper, read_worths, worths_text
from tests.samples import (
    MOST, anything, chain, check_interface, loose_yard, nest_of_itself, refused, ring, some_draft, some_worths,
    some_yards,
)

KINDS = ((0,), (-1, 0, 1), (-MOST, MOST), (1 - 10 ** 31, 10 ** 31 - 1, -10 ** 30), range(-1200, 1200))


def no_texts():
    return [thing for thing in anything() if not isinstance(thing, str)] + [
        ["1,2,3"], ("1,2,3",), b"1,2,3", ((1, 2, 3),), ((0, 1, None),), ["3b"], nest_of_itself(),
    ]


def some_paper(many, rng):
    """Rows of whatever crossings, WAYS and ENDS."""
    told = []
    for _ in range(many):
        split = tuple(rng.randrange(160) for _ in range(rng.randrange(9))) or None
        told.append((rng.randrange(40), rng.randrange(3), split))
    return tuple(told)


class WorthsTextTest(unittest.TestCase):
    def test_by_hand(self):
        self.assertEqual(worths_text(((1, -2, 0),)), "1,-2,0")
        self.assertEqual(worths_text(((0, 5, 9), (0, 0, -17))), "0,5,9 0,0,-17")
        self.assertEqual(worths_text(((MOST, -MOST, 1),)), "1" + "0" * 30 + ",-1" + "0" * 30 + ",1")
        self.assertEqual(read_worths("0,5,9 0,0,-17"), ((0, 5, 9), (0, 0, -17)))
        self.assertEqual(read_worths("9" * 31 + ",-" + "9" * 31 + ",0"), ((10 ** 31 - 1, 1 - 10 ** 31, 0),))

    def test_there_and_back(self):
        rng = random.Random(161)
        for many in (1, 2, 3, 17, 40):
            for kinds in KINDS:
                worths = some_worths(many, rng, kinds)
                text = worths_text(worths)
                self.assertEqual(text, " ".join(f"{one},{two},{three}" for one, two, three in worths))
                self.assertEqual(read_worths(text), worths)
                told = read_worths(text)
                self.assertEqual({type(told)} | {type(three) for three in told}, {tuple})
                self.assertEqual({type(worth) for three in told for worth in three}, {int})

    def test_numbers_by_just_one_text(self):
        good = {str(number) for number in range(-120, 121)}
        for length in range(4):
            for signs in itertools.product("-019", repeat=length):
                for text in ("".join(signs), "".join(signs) + "2"):
                    for at in range(3):
                        parts = ["7", "7", "7"]
                        parts[at] = text
                        told = ",".join(parts)
                        if text in good or text.isdigit() and text[0] != "0" or self.is_below(text):
                            want = tuple(int(part) for part in parts)
                            self.assertEqual(read_worths(told), (want,))
                        else:
                            with self.subTest(told), refused(self, BadText, place=0):
                                read_worths(told)

    def is_below(self, text):
        return text[:1] == "-" and text[1:].isdigit() and text[1] != "0"

    def test_of_what_is_not_so_by_its_form(self):
        for word in (
            "", "1", "1,2", "1,2,3,4", ",,", "1,,3", "1,2,", ",2,3", "1,2,3,", "a,2,3", "1,2,b", "1, 2,3", "1;2;3",
            "01,2,3", "1,00,3", "-0,2,3", "1,-00,3", "1,-01,3", "+1,2,3", "1,2,+3", "--1,2,3", "1-,2,3", "-,2,3",
            "1,- 2,3", "1.0,2,3", "1e3,2,3", "1_0,2,3", "0x1,2,3", "1" * 32 + ",2,3", "1,-" + "1" * 32 + ",3",
            "1,2," + "9" * 900, "1,2,3\n", "\n1,2,3", "1,2,3\n1,2,3", "(1,2,3)", "None", "True,2,3", "1,2,3\\",
            "0" + "1" * 31 + ",2,3", "1,2," + "0" * 31,
        ):
            for ahead in (0, 1, 5):
                for behind in (0, 2):
                    text = " ".join(["1,2,3"] * ahead + [word] + ["x"] * behind)
                    with self.subTest(text[:80]), refused(self, BadText, place=ahead):
                        read_worths(text)

    def test_one_blank_stands_between(self):
        for text, place in (
            ("", 0), (" ", 0), (" 1,2,3", 0), ("1,2,3 ", 1), ("1,2,3  4,5,6", 1), ("1,2,3 4,5,6 ", 2), ("\n", 0),
            ("1,2,3\n4,5,6", 0), ("1,2,3 \n4,5,6", 1),
        ):
            with self.subTest(text), refused(self, BadText, place=place):
                read_worths(text)

    def test_no_more_than_forty_crossings(self):
        self.assertEqual(read_worths(" ".join(["1,2,3"] * 40)), ((1, 2, 3),) * 40)
        for many in (41, 42, 100):
            with refused(self, BadText, place=40):
                read_worths(" ".join(["1,2,3"] * many))
        with refused(self, BadText, place=40):
            read_worths(" ".join(["1,2,3"] * 40) + " ")
        with refused(self, BadText, place=39):
            read_worths(" ".join(["1,2,3"] * 39) + "  1,2,3")


class PaperTextTest(unittest.TestCase):
    def test_by_hand(self):
        self.assertEqual(paper_text(()), "")
        self.assertEqual(read_paper(""), ())
        self.assertEqual(paper_text(((3, 0, None),)), "3b")
        self.assertEqual(paper_text(((3, 1, None), (0, 2, (0, 5, 159)))), "3c\n0d by 0a 1b 39d")
        self.assertEqual(read_paper("3c\n0d by 0a 1b 39d"), ((3, 1, None), (0, 2, (0, 5, 159))))
        self.assertEqual(read_paper("39d by 39d"), ((39, 2, (159,)),))

    def test_each_head_and_each_end(self):
        for crossing in range(40):
            for way, letter in enumerate("bcd"):
                self.assertEqual(paper_text(((crossing, way, None),)), f"{crossing}{letter}")
                self.assertEqual(read_paper(f"{crossing}{letter}"), ((crossing, way, None),))
        for end in range(160):
            text = f"0b by {end // 4}{'abcd'[end % 4]}"
            self.assertEqual(paper_text(((0, 0, (end,)),)), text)
            self.assertEqual(read_paper(text), ((0, 0, (end,)),))

    def test_there_and_back_of_whatever_rows(self):
        rng = random.Random(162)
        for many in list(range(41)) * 3:
            paper = some_paper(many, rng)
            told = read_paper(paper_text(paper))
            self.assertEqual(told, paper)
            kinds = {type(told)} | {type(step) for step in told}
            self.assertEqual(kinds | {type(step[2]) for step in told if step[2] is not None}, {tuple})

    def test_rows_in_whatever_order_with_ends_in_whatever_order_and_often(self):
        paper = ((5, 1, (9, 3, 3, 9)), (5, 1, (9, 3, 3, 9)), (1, 0, None), (5, 2, tuple(range(159, -1, -1))))
        self.assertEqual(read_paper(paper_text(paper)), paper)

    def test_there_and_back_of_papers_by_yards(self):
        rng = random.Random(163)
        for yard in some_yards(164, (1, 5, 20, 40)) + [chain(40), ring(40), loose_yard(9, rng)]:
            for kinds in ((0,), (-1, 0, 1), (-MOST, 0, MOST)):
                worths = some_worths(len(yard) // 2, rng, kinds)
                draft = some_draft(yard, len(yard) // 3, rng)
                paper = going(yard, worths, draft=draft)
                text = paper_text(paper)
                self.assertEqual(text.count("\n") + 1 if paper else 0, len(paper))
                if len(text) > 20000:
                    with refused(self, BadText, place=-1):
                        read_paper(text)
                else:
                    self.assertEqual(read_paper(text), paper)
                    told = check_going(yard, read_worths(worths_text(worths)), read_paper(text), draft=draft)
                    self.assertEqual(told, greatest_worth(yard, worths, draft=draft))

    def test_of_what_is_not_so_by_its_form(self):
        for row in (
            "3", "b", "3a", "3e", "3B", "b3", "03b", "+3b", "-3b", "40b", "100b", "3bb", "3b-", "3 b", " 3b", "3b ",
            "3b by", "3b by ", "3b by  0a", "3b  by 0a", "3b by 0a ", "3b by 0a  0b", "3bby 0a", "3b by0a", "3b BY 0a",
            "3b by 0a,0b", "3b by 0e", "3b by 00a", "3b by 40a", "3b by a", "3b by 0", "3b by by 0a", "3b by 0a by 0b",
            "3b 0a", "by 0a", "3b by 0a-0b", "3a by 0a", "40d by 0a", "3b by 160", "9" * 900 + "b", "3b\\n3b", "None",
        ):
            for ahead in (0, 1, 5):
                for behind in (0, 2):
                    text = "\n".join(["3b", "7d by 0a 3c", "3b", "0c", "1d by 9a"][:ahead] + [row] + ["x"] * behind)
                    with self.subTest(text), refused(self, BadText, place=ahead):
                        read_paper(text)

    def test_one_line_end_stands_between(self):
        for text, place in (
            ("\n", 0), (" ", 0), ("\n3b", 0), ("3b\n", 1), ("3b\n\n3c", 1), ("3b\n3c\n", 2), ("3b\n \n3c", 1), ("\n\n", 0),
        ):
            with self.subTest(text), refused(self, BadText, place=place):
                read_paper(text)

    def test_no_more_than_forty_rows(self):
        self.assertEqual(read_paper("\n".join(["0b"] * 40)), ((0, 0, None),) * 40)
        for many in (41, 42, 100):
            with refused(self, BadText, place=40):
                read_paper("\n".join(["0b"] * many))
        with refused(self, BadText, place=40):
            read_paper("\n".join(["0b"] * 40) + "\n")
        with refused(self, BadText, place=7):
            read_paper("\n".join(["0b"] * 7 + ["x"] + ["0b"] * 40))


class TextsTest(unittest.TestCase):
    def test_of_what_is_no_text(self):
        for thing in no_texts():
            for call in (read_worths, read_paper):
                with self.subTest(repr(thing)[:80]), refused(self, BadText, place=-1):
                    call(thing)

    def test_how_many_signs_there_may_be(self):
        self.assertEqual(MOST_PAPER_SIGNS, 20000)
        for text in ("x" * 20001, " " * 20001, "\n" * 20001, "1,2,3 " * 4000, "0b\n" * 9000, "0" * 30000):
            for call in (read_worths, read_paper):
                with refused(self, BadText, place=-1):
                    call(text)
        for text in ("x" * 20000, " " * 20000, "\n" * 20000):
            for call in (read_worths, read_paper):
                with refused(self, BadText, place=0):
                    call(text)

    def test_a_good_paper_of_too_many_signs(self):
        wide = [(0, 0, (0,) * 165)] * 39
        last = 20000 - len(paper_text(wide)) - len("\n0b by")
        self.assertEqual(last % 3, 0)
        paper = tuple(wide + [(0, 0, (0,) * (last // 3))])
        self.assertEqual(len(paper_text(paper)), 20000)
        self.assertEqual(read_paper(paper_text(paper)), paper)
        paper = tuple(wide[:-1] + [(10, 0, (0,) * 165)] + [(0, 0, (0,) * (last // 3))])
        self.assertEqual(len(paper_text(paper)), 20001)
        with refused(self, BadText, place=-1):
            read_paper(paper_text(paper))

    def test_names_and_arguments(self):
        check_interface(self, papertexts, (
            ("worths_text", "worths"), ("paper_text", "paper"), ("read_worths", "text"), ("read_paper", "text"),
        ))


if __name__ == "__main__":
    unittest.main()
