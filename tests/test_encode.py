"""Points 100 and 104 to 106: encode."""

import unittest

from mustercall.errors import BadText, MusterError
from mustercall.texts import encode
from odd import not_plain


def nested(depth, core=()):
    """Return the core inside of so many tuples."""
    for _ in range(depth):
        core = (core,)
    return core


class EncodeCase(unittest.TestCase):
    def assert_refused(self, value):
        with self.assertRaises(BadText) as caught:
            encode(value)
        self.assertIs(type(caught.exception), BadText)


class IntegerTest(EncodeCase):
    def test_integers(self):
        for value, text in ((0, "0"), (1, "1"), (-1, "-1"), (10, "10"), (-305, "-305"), (10 ** 12, "1000000000000")):
            self.assertEqual(encode(value), text)

    def test_integers_of_24_digits(self):
        for digits in ("9" * 24, "1" + "0" * 23, "123456789012345678901234"):
            self.assertEqual(encode(int(digits)), digits)
            self.assertEqual(encode(-int(digits)), "-" + digits)
            self.assertEqual(encode((int(digits),)), f"({digits};)")

    def test_integers_of_more_digits_are_refused(self):
        for value in (10 ** 24, 10 ** 25 - 1, 10 ** 30, 10 ** 6000):
            self.assert_refused(value)
            self.assert_refused(-value)
            self.assert_refused((value,))
            self.assert_refused((1, (-value,)))


class StringTest(EncodeCase):
    def test_strings(self):
        for value, text in (("", "0:"), (" ", "1: "), ("a", "1:a"), ("it;", "3:it;"), ("1:a", "3:1:a"),
                            ("()", "2:()"), ("-5", "2:-5"), ("0123456789", "10:0123456789"),
                            ("~" * 100, "100:" + "~" * 100)):
            self.assertEqual(encode(value), text)

    def test_each_printable_character(self):
        for code in range(32, 127):
            if code != 37:
                self.assertEqual(encode(chr(code)), "1:" + chr(code))

    def test_strings_that_are_not_printable_are_refused(self):
        for code in (0, 9, 10, 13, 31, 37, 127, 128, 160, 255, 0x20ac, 0xd800, 0x1f600):
            self.assert_refused(chr(code))
            self.assert_refused("ab" + chr(code))
            self.assert_refused(("ab", (chr(code) + "ab",)))


class TupleTest(EncodeCase):
    def test_the_example_of_the_document(self):
        value = ("cast", (0, 2), -3, "it;", "", ())
        self.assertEqual(encode(value), "(4:cast;(0;2;);-3;3:it;;0:;();)")

    def test_tuples(self):
        for value, text in (((), "()"), ((1,), "(1;)"), ((1, 2), "(1;2;)"), (((),), "(();)"), (((), ()), "(();();)"),
                            (("a", -1), "(1:a;-1;)"), ((1, (2, (3,)), 4), "(1;(2;(3;););4;)")):
            self.assertEqual(encode(value), text)

    def test_a_tuple_of_depth_8(self):
        self.assertEqual(encode(nested(7)), "(" * 8 + ")" + ";)" * 7)
        self.assertEqual(encode(nested(8, 5)), "(" * 8 + "5" + ";)" * 8)
        self.assertEqual(encode(nested(8, "a")), "(" * 8 + "1:a" + ";)" * 8)
        self.assertEqual(encode((1, nested(6), 2)), "(1;" + "(" * 7 + ")" + ";)" * 6 + ";2;)")

    def test_a_tuple_of_depth_9_is_refused(self):
        self.assert_refused(nested(8))
        self.assert_refused(nested(9, 5))
        self.assert_refused(nested(9, "a"))
        self.assert_refused((1, nested(7), 2))
        self.assert_refused((1, 2, nested(7)))

    def test_the_depth_of_one_item_does_not_add_to_that_of_the_next(self):
        self.assertEqual(encode((nested(6), nested(6), nested(6))), "(" + ("(" * 7 + ")" + ";)" * 6 + ";") * 3 + ")")

    def test_a_very_deep_tuple_is_refused(self):
        self.assert_refused(nested(20000))


class LengthTest(EncodeCase):
    def test_a_string_with_a_text_of_100000_characters(self):
        value = "a" * 99994
        self.assertEqual(encode(value), "99994:" + value)
        self.assertEqual(len(encode(value)), 100000)

    def test_a_string_with_a_text_of_100001_characters_is_refused(self):
        self.assert_refused("a" * 99995)
        self.assert_refused("a" * 100001)
        self.assert_refused("a" * 1000000)

    def test_a_tuple_with_a_text_of_100000_characters(self):
        self.assertEqual(encode((0,) * 49999), "(" + "0;" * 49999 + ")")
        self.assertEqual(len(encode(("a" * 99991,))), 100000)
        self.assertEqual(len(encode(((), "a" * 99988))), 100000)

    def test_a_tuple_with_a_text_of_100001_characters_is_refused(self):
        self.assert_refused((10,) + (0,) * 49998)
        self.assert_refused(("a" * 99992,))
        self.assert_refused(((), "a" * 99989))
        self.assert_refused(("a" * 99989, ()))
        self.assert_refused((("a" * 99989,),))

    def test_a_value_that_contains_itself_many_times_over_is_refused_soon(self):
        value = ()
        for _ in range(7):
            value = (value,) * 1000
        self.assert_refused(value)


class RefusedTest(EncodeCase):
    def test_what_is_not_plain_is_refused(self):
        for label, value in not_plain():
            with self.subTest(label):
                self.assert_refused(value)

    def test_what_is_not_plain_is_refused_inside_of_tuples(self):
        for label, value in not_plain():
            with self.subTest(label):
                self.assert_refused((value,))
                self.assert_refused(("a", value))
                self.assert_refused((value, "a"))
                self.assert_refused((1, ("a", (value, 2)), 3))
                self.assert_refused(nested(8, value))

    def test_the_error_is_a_muster_error(self):
        with self.assertRaises(MusterError):
            encode(None)


class NoChangeTest(EncodeCase):
    def test_the_arguments_are_not_modified(self):
        value = (1, [2, "a"], {"b": 3})
        self.assert_refused(value)
        self.assertEqual(value, (1, [2, "a"], {"b": 3}))

    def test_the_same_call_has_the_same_result_again(self):
        for _ in range(3):
            self.assertEqual(encode((1, "a")), "(1;1:a;)")
            self.assert_refused((1, None))


if __name__ == "__main__":
    unittest.main()
