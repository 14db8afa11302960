import inspect
import itertools
import random
import unittest

from oneround import yardtexts
from oneround.errors import BadText, BadYard
from oneround.yardtexts import MOST_SIGNS, read_ways, read_yard, ways_text, yard_text
from tests.samples import TWO, all_yards, anything, chain, refused

ONE = ((0, 1), (2, 3))
TWO_TEXT = "0a-1a 0b-1b 0c-1c 0d-1d"


def no_texts():
    return [thing for thing in anything() if not isinstance(thing, str)] + [("0a-0b 0c-0d",), ["bcd"], list("bcd")]


class YardTextTest(unittest.TestCase):
    def test_by_hand(self):
        self.assertEqual(yard_text(ONE), "0a-0b 0c-0d")
        self.assertEqual(yard_text(((0, 3), (1, 2))), "0a-0d 0b-0c")
        self.assertEqual(yard_text(TWO), TWO_TEXT)
        self.assertTrue(yard_text(chain(11)).endswith(" 8c-9a 8d-9b 9c-10a 9d-10b 10c-10d"))

    def test_forty_crossings(self):
        text = yard_text(chain(40))
        self.assertTrue(text.startswith("0a-0b 0c-1a 0d-1b 1c-2a "))
        self.assertTrue(text.endswith(" 38c-39a 38d-39b 39c-39d"))
        self.assertEqual(text.count(" "), 79)

    def test_of_what_is_no_yard(self):
        for thing in anything() + ["0a-0b 0c-0d"]:
            place = (0,) if isinstance(thing, tuple) and len(thing) == 2 else ()
            with refused(self, BadYard, place=place):
                yard_text(thing)
        for thing, place in ((((0, 1), (1, 2)), (1,)), (((0, 1), (2, 3), (4, 5), (6, 7)), (4,))):
            with refused(self, BadYard, place=place):
                yard_text(thing)


class ReadYardTest(unittest.TestCase):
    def check_refused(self, text, place):
        with self.subTest(repr(text)[:80]), refused(self, BadText, place=place):
            read_yard(text)

    def test_there_and_back(self):
        for yard in all_yards(1) + all_yards(2) + [chain(many) for many in range(1, 41)]:
            self.assertEqual(read_yard(yard_text(yard)), yard)

    def test_lines_and_ends_in_any_order(self):
        for words in itertools.permutations(TWO_TEXT.split(" ")):
            for turns in itertools.product((False, True), repeat=4):
                told = ["-".join(word.split("-")[::-1]) if turn else word for word, turn in zip(words, turns)]
                self.assertEqual(read_yard(" ".join(told)), TWO)

    def test_a_long_text_shuffled(self):
        words = yard_text(chain(40)).split(" ")
        random.Random(5).shuffle(words)
        self.assertEqual(read_yard(" ".join(words)), chain(40))

    def test_blanks_ahead_between_and_behind(self):
        self.assertEqual(read_yard("   0d-0c    0b-0a  "), ONE)
        self.assertEqual(read_yard(" 0a-0b 0c-0d"), ONE)
        self.assertEqual(read_yard("0a-0b 0c-0d "), ONE)

    def test_how_many_signs_there_may_be(self):
        self.assertEqual(MOST_SIGNS, 2000)
        self.assertEqual(read_yard("0a-0b 0c-0d".rjust(2000)), ONE)
        self.assertEqual(read_yard("0a-0b" + " " * 1990 + "0c-0d"), ONE)
        for text in ("0a-0b 0c-0d".ljust(2001), " " * 2001, "x" * 2001, "0" * 5000):
            self.check_refused(text, -1)

    def test_of_what_is_no_text(self):
        for thing in no_texts() + [ONE, b"0a-0b 0c-0d"]:
            self.check_refused(thing, -1)

    def test_a_word_that_is_no_line(self):
        for word in (
            "x", "-", "0a", "0a-", "-0b", "0a-0b-0c", "0a--0b", "a-b", "0-1", "0e-0f", "0A-0b", "0a_0b",
            "00a-0b", "0a-00b", "01a-0b", "+0a-0b", "40a-0b", "0a-40b", "100a-0b", "9" * 900 + "a-0b",
            "0ab-0c", "0aa-0b", "0a-0b,", "0a-0b\n", "\n0a-0b", "\n", "0a\n-0b", "0a-0b\n0c-0d", "0a-0a",
            "a0-b0", "0a-0", "0-0a", "1-0a",
        ):
            self.check_refused(word, 0)
            self.check_refused(f"  {word}  0c-0d x", 0)
            self.check_refused(f"0d-0c {word} ", 1)
            self.check_refused(f"39a-39b  7c-8d   {word} {word}", 2)

    def test_a_word_with_an_end_that_one_ahead_has(self):
        self.check_refused("0a-0b 0a-0b", 1)
        self.check_refused("0a-0b 0b-0a", 1)
        self.check_refused("0a-0b 0b-0c", 1)
        self.check_refused("0a-0b 0c-0a", 1)
        self.check_refused("0b-0c 0a-0c", 1)
        self.check_refused("0c-0d 0a-0a", 1)
        self.check_refused("39a-39b 5c-5d 39c-5d x", 2)
        self.check_refused(yard_text(chain(40)) + " 0a-39d", 80)

    def test_the_first_word_that_cannot_be_is_told(self):
        self.check_refused("0a-0b x 0a-0b", 1)
        self.check_refused("0a-0b 0a-0c x", 1)

    def test_lines_of_no_yard(self):
        self.check_refused("0a-0b", 1)
        self.check_refused("0a-0b 0c-1a 1b-1c", 3)
        self.check_refused("1a-1b 1c-1d", 2)
        self.check_refused("0a-0b 1c-1d", 2)
        self.check_refused("0a-0b 0c-2a 0d-2b 2c-2d", 4)
        self.check_refused(" 0a-0b  0c-0d 1a-1b   1c-1d", 4)
        self.check_refused(" ".join(yard_text(chain(40)).split(" ")[:79]), 79)

    def test_no_words(self):
        for text in ("", " ", "    ", " " * 2000):
            self.check_refused(text, 0)


class WaysTest(unittest.TestCase):
    def test_by_hand(self):
        self.assertEqual(ways_text((0, 1, 2)), "bcd")
        self.assertEqual(ways_text((None, 2, None)), "-d-")
        self.assertEqual(read_ways("bcd"), (0, 1, 2))
        self.assertEqual(read_ways("-d-", is_draft=True), (None, 2, None))
        self.assertEqual(read_ways("cb", is_draft=False), (1, 0))

    def test_there_and_back(self):
        for many in range(5):
            for ways in itertools.product((0, 1, 2, None), repeat=many):
                text = ways_text(ways)
                self.assertEqual(len(text), many)
                self.assertEqual(read_ways(text, is_draft=True), ways)
                if None in ways:
                    with refused(self, BadText, place=ways.index(None)):
                        read_ways(text)
                else:
                    self.assertEqual(read_ways(text), ways)

    def test_as_many_as_there_are_signs(self):
        self.assertEqual(read_ways(""), ())
        self.assertEqual(ways_text(()), "")
        self.assertEqual(read_ways("d" * 40), (2,) * 40)
        self.assertEqual(read_ways("-" * 40, is_draft=True), (None,) * 40)

    def test_of_no_text_or_one_that_is_too_long(self):
        for text in no_texts() + ["b" * 41, "x" * 41, " " * 2000]:
            for is_draft in (True, False):
                with refused(self, BadText, place=-1):
                    read_ways(text, is_draft=is_draft)

    def test_the_first_sign_that_cannot_be(self):
        for text, place in (
            ("a", 0), ("ba", 1), ("bcdB", 3), ("bc d", 2), ("b\n", 1), (" b", 0), ("0", 0), ("bcdxe", 3),
            ("d" * 39 + "e", 39), ("e" * 40, 0),
        ):
            for is_draft in (True, False):
                with self.subTest(text), refused(self, BadText, place=place):
                    read_ways(text, is_draft=is_draft)

    def test_a_blank_way_is_of_a_draft_alone(self):
        with refused(self, BadText, place=2):
            read_ways("bc-a")
        with refused(self, BadText, place=3):
            read_ways("bc-a", is_draft=True)
        with refused(self, BadText, place=0):
            read_ways("-", is_draft=False)


class InterfaceTest(unittest.TestCase):
    def test_names_and_arguments(self):
        for name, arguments in (
            ("yard_text", "yard"), ("read_yard", "text"), ("ways_text", "ways"),
            ("read_ways", "text, *, is_draft=False"),
        ):
            call = getattr(yardtexts, name)
            self.assertEqual(str(inspect.signature(call)), f"({arguments})")
            self.assertEqual(call.__module__, "oneround.yardtexts")


if __name__ == "__main__":
    unittest.main()
