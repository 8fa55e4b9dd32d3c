import unittest

from panelworks import words
from panelworks.words import is_among, is_name, is_whole, number_of, signed_of, words_of

from tests.helpers import ODD_THINGS


class Words(unittest.TestCase):
    def test_constants(self):
        told = {
            "MOST_POINTS": 12,
            "MOST_SAYINGS": 20,
            "MOST_NUMBER": 999,
            "MOST_RATIO": 99,
            "MOST_PLACED": 9999,
            "MOST_UNDER": 99,
            "MOST_RING": 12,
            "MOST_SIDE": 8,
            "MOST_HIGH": 6,
            "MOST_FEATURES": 5,
            "MOST_TOOLS": 4,
            "MOST_TOOL": 4,
            "MOST_LENGTH": 6,
            "DEPTH": 2,
        }
        for name, number in told.items():
            self.assertIs(type(getattr(words, name)), int)
            self.assertEqual(getattr(words, name), number, name)

    def test_is_whole(self):
        for thing in (0, 1, -1, 10**30, -(10**30)):
            self.assertIs(is_whole(thing), True)
        for thing in ODD_THINGS + ("1", 1.0):
            self.assertIs(is_whole(thing), False)

    def test_is_among(self):
        for thing in (2, 3, 4):
            self.assertIs(is_among(thing, 2, 4), True)
        for thing in (1, 5, -3) + ODD_THINGS:
            self.assertIs(is_among(thing, 2, 4), False)
        self.assertIs(is_among(True, 0, 4), False)
        self.assertIs(is_among(False, 0, 4), False)
        self.assertIs(is_among(3, 4, 2), False)
        self.assertIs(is_among(-2, -2, -2), True)
        self.assertIs(is_among(thing=3, least=3, most=4), True)

    def test_is_among_of_bounds_that_are_none(self):
        for thing in ODD_THINGS:
            self.assertIs(is_among(3, thing, 4), False)
            self.assertIs(is_among(3, 2, thing), False)

    def test_is_name(self):
        for thing in ("a", "z", "abcdefgh", "at", "xy"):
            self.assertIs(is_name(thing), True)
        wrong = ("", "A", "aB", "abcdefghi", "a1", "a b", "a ", " a", "a\n", "\na", "-", "\u00e9", "\u00df", "\u0430")
        for thing in wrong + (b"a", ("a",), ["a"], None, True, 1, {"a": 1}):
            self.assertIs(is_name(thing), False, thing)

    def test_number_of(self):
        for word, number in (("0", 0), ("1", 1), ("9", 9), ("10", 10), ("9999", 9999), ("1000", 1000)):
            self.assertEqual(number_of(word), number)
            self.assertIs(type(number_of(word)), int)
        wrong = (
            "",
            "00",
            "01",
            "010",
            "0000",
            "10000",
            "12345",
            "-1",
            "-0",
            "+1",
            " 1",
            "1 ",
            "1\n",
            "1.0",
            "1_0",
            "x",
            "\u0661",
            "\u00b2",
            "1e3",
            "0x1",
            "--1",
        )
        for word in wrong + ODD_THINGS + (1, 0):
            self.assertIsNone(number_of(word), word)

    def test_signed_of(self):
        told = (("0", 0), ("1", 1), ("-1", -1), ("-10", -10), ("9999", 9999), ("-9999", -9999), ("-999", -999))
        for word, number in told:
            self.assertEqual(signed_of(word), number)
        wrong = (
            "",
            "-",
            "--1",
            "-0",
            "-00",
            "-01",
            "01",
            "+1",
            "-10000",
            "10000",
            "- 1",
            "-1 ",
            " -1",
            "-1\n",
            "-x",
            "1-",
        )
        for word in wrong + ODD_THINGS + (1, -1):
            self.assertIsNone(signed_of(word), word)

    def test_words_of(self):
        told = (
            ("a", ["a"]),
            ("a b", ["a", "b"]),
            ("at a x -3", ["at", "a", "x", "-3"]),
            ("a\nb c", ["a\nb", "c"]),
            ("\n", ["\n"]),
            ("A ; 1", ["A", ";", "1"]),
        )
        for row, parts in told:
            self.assertEqual(words_of(row), parts)
            self.assertIs(type(words_of(row)), list)
        for row in ("", " ", "  ", " a", "a ", "a  b", "a b ", " a b", "a   b"):
            self.assertIsNone(words_of(row), row)
        for row in (None, True, 1, b"a b", ["a"], ("a", "b"), {}, 1.5):
            self.assertIsNone(words_of(row))

    def test_words_are_the_askers_own(self):
        words_of("a b").append("c")
        self.assertEqual(words_of("a b"), ["a", "b"])

    def test_names_of_arguments(self):
        self.assertIs(is_whole(thing=1), True)
        self.assertIs(is_name(thing="a"), True)
        self.assertEqual(number_of(word="7"), 7)
        self.assertEqual(signed_of(word="-7"), -7)
        self.assertEqual(words_of(row="a b"), ["a", "b"])


if __name__ == "__main__":
    unittest.main()
