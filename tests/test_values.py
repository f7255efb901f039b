"""Points 100 and 101: is_printable and is_integer."""

import unittest

from mustercall.limits import MOST_NUMBER
from mustercall.texts import is_integer, is_printable
from odd import not_plain

PERCENT = chr(37)


class PrintableTest(unittest.TestCase):
    def test_ordinary_strings_are_printable(self):
        for text in ("", " ", "~", "a", "it;", "(1;2)", "\"'\\", "0123456789", " a b "):
            with self.subTest(text=text):
                self.assertIs(is_printable(text), True)

    def test_each_character_alone(self):
        for code in range(1200):
            with self.subTest(code=code):
                self.assertIs(is_printable(chr(code)), 32 <= code <= 126 and code != 37)

    def test_one_bad_character_spoils_a_string_wherever_it_stands(self):
        bad = (PERCENT, chr(0), chr(9), "\n", "\r", chr(31), chr(127), chr(128), chr(160), chr(255),
               chr(0x0660), chr(0x20ac), chr(0xff11), chr(0xd800), chr(0x1f600), chr(0x10ffff))
        for character in bad:
            for text in (character, character + "ab", "a" + character + "b", "ab" + character):
                with self.subTest(text=ascii(text)):
                    self.assertIs(is_printable(text), False)

    def test_a_long_string(self):
        self.assertIs(is_printable("a" * 200000), True)
        self.assertIs(is_printable("a" * 200000 + PERCENT), False)

    def test_what_is_no_string_is_not_printable(self):
        values = not_plain() + [("an integer", 65), ("a tuple", ("a",)), ("an empty tuple", ())]
        for label, value in values:
            with self.subTest(label):
                self.assertIs(is_printable(value), False)


class IntegerTest(unittest.TestCase):
    def test_the_limits_belong_to_the_range(self):
        for least, greatest in ((0, 5), (-3, 3), (-9, -4), (1, MOST_NUMBER), (7, 7)):
            with self.subTest(least=least, greatest=greatest):
                self.assertIs(is_integer(least, least, greatest), True)
                self.assertIs(is_integer(greatest, least, greatest), True)
                self.assertIs(is_integer(least - 1, least, greatest), False)
                self.assertIs(is_integer(greatest + 1, least, greatest), False)

    def test_numbers_within_and_far_outside(self):
        self.assertIs(is_integer(3, 0, 5), True)
        self.assertIs(is_integer(-10 ** 6000, 0, 5), False)
        self.assertIs(is_integer(10 ** 6000, 0, 5), False)
        self.assertIs(is_integer(10 ** 6000, 0, 10 ** 6001), True)

    def test_an_empty_range(self):
        for value in (1, 2, 3):
            self.assertIs(is_integer(value, 3, 1), False)

    def test_true_and_false_are_no_integers(self):
        self.assertIs(is_integer(True, 0, 5), False)
        self.assertIs(is_integer(False, 0, 5), False)
        self.assertIs(is_integer(True, 1, 1), False)
        self.assertIs(is_integer(False, 0, 0), False)
        self.assertIs(is_integer(1, 1, 1), True)
        self.assertIs(is_integer(0, 0, 0), True)

    def test_what_is_no_int_is_no_integer(self):
        values = not_plain() + [("a string", "3"), ("a tuple", (3,)), ("a float in range", 3.0)]
        for label, value in values:
            with self.subTest(label):
                self.assertIs(is_integer(value, -10, 10), False)


class NoChangeTest(unittest.TestCase):
    def test_the_arguments_are_not_modified(self):
        for value in ([3, 1, 2], {"b": 1, "a": [2]}, {3, 1}, bytearray(b"ab")):
            before = repr(value)
            is_printable(value)
            is_integer(value, 0, 9)
            self.assertEqual(repr(value), before)

    def test_the_same_call_has_the_same_result_again(self):
        for _ in range(3):
            self.assertIs(is_printable("a"), True)
            self.assertIs(is_printable(PERCENT), False)
            self.assertIs(is_integer(4, 1, 4), True)
            self.assertIs(is_integer(5, 1, 4), False)


if __name__ == "__main__":
    unittest.main()
