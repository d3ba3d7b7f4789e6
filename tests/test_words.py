"""Points [3], what a whole number is, and [4], names and written numbers."""

import inspect
import string
import unittest

from windchest import words
from windchest.errors import NoNumber
from windchest.words import is_name, is_number, is_whole, number_of

NO_TEXTS = (
    None, True, False, 0, 1, 5, -5, 12, 10 ** 12, 10 ** 1000, [], ["a"], ["1"], (), ("a",), ("1",),
    {}, {"a": 1}, b"a", b"1", object(), str, 1.0,
)

WRITTEN = tuple(
    (sign + figures, int(sign + figures))
    for sign in ("", "-")
    for figures in ("1", "5", "9", "10", "12", "90", "100", "1000000", "12345678901", "100000000000",
                    "123456789012", "999999999999")
) + (("0", 0),)

NOT_WRITTEN = (
    "", "-", "--", "-0", "+0", "00", "01", "-01", "007", "-007", "000000000000", "012345678901",
    "+1", "+12", "--1", "-+1", "+-1", "++1", "1-", "1+", "1-1", "-1-", "- 1", "-\n1",
    "1000000000000", "-1000000000000", "9999999999999", "-9999999999999", "12345678901234567890",
    " ", " 1", "1 ", "1 1", " 0", "0 ", " -1", "-1 ", "\n", "\n1", "1\n", "1\n1", "0\n", "\n0", "-1\n",
    "\t1", "1\t", "\r1", "1\r", "1\r\n", "1\x0b", "1\x0c", "1\x1c", "1\x00",
    "_", "1_", "_1", "1_1", "1_000", "1.", ".1", "1.0", "0.0", "1,000", "1e3", "0x1", "0b1", "0o1",
    "a", "1a", "a1", "1a1", "A", "one", "None", "True", "False", "inf", "nan", "1j", "1L",
    "/", ":", "1/2", "1:2", "/1", "1:", "9:", "*", "1-0", "0-", "0-1",
)


class TestArguments(unittest.TestCase):
    def test_names_of_arguments(self):
        for name, wanted in (("is_whole", ["thing"]), ("is_name", ["thing"]),
                             ("is_number", ["thing"]), ("number_of", ["text"])):
            with self.subTest(name):
                self.assertEqual(list(inspect.signature(getattr(words, name)).parameters), wanted)


class TestIsWhole(unittest.TestCase):
    def test_whole_numbers(self):
        for thing in (0, 1, -1, 2, 7, -7, 1199, 1200, -1200, 10 ** 9, -10 ** 9, 2 ** 63, -2 ** 64,
                      10 ** 30, -10 ** 30, 2 ** 1200, 10 ** 3999, -10 ** 3999):
            with self.subTest(thing):
                self.assertIs(is_whole(thing), True)

    def test_truths_are_none(self):
        self.assertIs(is_whole(True), False)
        self.assertIs(is_whole(False), False)

    def test_other_things_are_none(self):
        for thing in (None, "", "0", "1", "-1", "one", [], [0], [1, 2], (), (0,), (1, 2), {}, {0: 1},
                      1.0, 0.0, b"1", object(), int, {1}):
            with self.subTest(thing):
                self.assertIs(is_whole(thing), False)


class TestIsName(unittest.TestCase):
    def test_names_of_each_length(self):
        for count in range(1, 9):
            with self.subTest(count):
                self.assertIs(is_name("abcdefgh"[:count]), True)
                self.assertIs(is_name("z" * count), True)

    def test_each_small_letter_at_each_place(self):
        for letter in string.ascii_lowercase:
            for text in (letter, letter + "flute", "flu" + letter + "te", "flute" + letter):
                with self.subTest(text):
                    self.assertIs(is_name(text), True)

    def test_too_short_and_too_long(self):
        for text in ("", "abcdefghi", "z" * 9, "a" * 16, "a" * 4000):
            with self.subTest(len(text)):
                self.assertIs(is_name(text), False)

    def test_each_other_sign_at_each_place(self):
        others = [chr(number) for number in range(128) if chr(number) not in string.ascii_lowercase]
        self.assertEqual(len(others), 102)
        for sign in others:
            for text in (sign, sign + "flute", "flu" + sign + "te", "flute" + sign, sign + "abcdefg",
                         "abc" + sign + "defg", "abcdefg" + sign, "abcdefgh" + sign):
                with self.subTest(text):
                    self.assertIs(is_name(text), False)

    def test_things_that_are_no_text(self):
        for thing in NO_TEXTS:
            with self.subTest(thing if is_whole(thing) is False else "a number"):
                self.assertIs(is_name(thing), False)


class TestWrittenNumbers(unittest.TestCase):
    def test_written_numbers(self):
        for text, number in WRITTEN:
            with self.subTest(text):
                self.assertIs(is_number(text), True)
                told = number_of(text)
                self.assertEqual(told, number)
                self.assertIs(is_whole(told), True)

    def test_each_figure_at_each_place(self):
        for number in list(range(-1100, 1101)) + [1234567890, -9876543210]:
            with self.subTest(number):
                self.assertIs(is_number(str(number)), True)
                self.assertEqual(number_of(str(number)), number)

    def test_each_count_of_figures(self):
        for count in range(1, 16):
            for text in ("1" * count, "-" + "1" * count, "9" * count, "1" + "0" * (count - 1)):
                with self.subTest(text):
                    self.assertIs(is_number(text), count <= 12)
                    if count <= 12:
                        self.assertEqual(number_of(text), int(text))
                    else:
                        self.assertRaises(NoNumber, number_of, text)

    def test_what_is_no_written_number(self):
        for text in NOT_WRITTEN:
            with self.subTest(text):
                self.assertIs(is_number(text), False)
                self.assertRaises(NoNumber, number_of, text)

    def test_each_other_sign_at_each_place(self):
        for sign in [chr(number) for number in range(128) if chr(number) not in string.digits]:
            for text in (sign, "1" + sign, "12" + sign + "34", "-" + sign + "1", "-1" + sign, sign + sign + "1"):
                with self.subTest(text):
                    self.assertIs(is_number(text), False)
                    self.assertRaises(NoNumber, number_of, text)
            self.assertIs(is_number(sign + "1"), sign == "-")

    def test_things_that_are_no_text(self):
        for place, thing in enumerate(NO_TEXTS):
            with self.subTest(place):
                self.assertIs(is_number(thing), False)
                self.assertRaises(NoNumber, number_of, thing)

    def test_a_long_text(self):
        self.assertIs(is_number("1" * 4000), False)
        self.assertRaises(NoNumber, number_of, "1" * 4000)


class TestNothingHandedInIsChanged(unittest.TestCase):
    def test_lists_and_dicts_stay(self):
        thing = [1, "a", ["b"], {"c": 2}]
        for ask in (is_whole, is_name, is_number):
            ask(thing)
        self.assertRaises(NoNumber, number_of, thing)
        self.assertEqual(thing, [1, "a", ["b"], {"c": 2}])


if __name__ == "__main__":
    unittest.main()
