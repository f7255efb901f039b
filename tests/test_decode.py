"""Points 100 and 107: decode."""

import itertools
import unittest

from mustercall.errors import BadText, MusterError
from mustercall.texts import decode, encode
from odd import not_plain


def small_values(depth):
    """Return many plain values of at most this depth."""
    values = [0, 1, -1, 10, -305, "", "a", " ", "1:a", ";", "()", "-0"]
    for _ in range(depth):
        some = values[:6] + values[-6:]
        values = values + [()] + [(one,) for one in values] + list(itertools.product(some, repeat=2))
    return values


def same(one, other):
    """Tell whether two plain values are equal and of the same kinds."""
    if type(one) is not type(other):
        return False
    if isinstance(one, tuple):
        return len(one) == len(other) and all(map(same, one, other))
    return one == other


class DecodeCase(unittest.TestCase):
    def assert_refused(self, text):
        with self.assertRaises(BadText) as caught:
            decode(text)
        self.assertIs(type(caught.exception), BadText)

    def assert_decoded(self, text, value):
        self.assertTrue(same(decode(text), value), repr(text)[:100])

    def assert_all_refused(self, texts):
        for text in texts:
            with self.subTest(text=ascii(text)[:100]):
                self.assert_refused(text)


class DecodeTest(DecodeCase):
    def test_the_examples_of_the_document(self):
        self.assert_decoded("(1;();3:a;b;)", (1, (), "a;b"))
        self.assert_decoded("(4:cast;(0;2;);-3;3:it;;0:;();)", ("cast", (0, 2), -3, "it;", "", ()))
        self.assert_refused("(1;2)")
        self.assert_refused("02:ab")

    def test_values_of_each_kind(self):
        for text, value in (("0", 0), ("7", 7), ("-7", -7), ("100", 100), ("-100", -100), ("0:", ""), ("1: ", " "),
                            ("2:ab", "ab"), ("11:0123456789-", "0123456789-"), ("1::", ":"), ("1:;", ";"), ("1:)", ")"),
                            ("()", ()), ("(0;)", (0,)), ("(0:;)", ("",)), ("(();();)", ((), ())), ("(1:;;)", (";",))):
            with self.subTest(text=text):
                self.assert_decoded(text, value)

    def test_decode_undoes_encode(self):
        for value in small_values(2):
            self.assert_decoded(encode(value), value)

    def test_each_printable_character(self):
        for code in range(32, 127):
            if code != 37:
                self.assert_decoded("1:" + chr(code), chr(code))

    def test_each_short_text_is_refused_or_canonical(self):
        known = {encode(value) for value in small_values(2)}
        decoded = set()
        for length in range(6):
            for characters in itertools.product("();:-012a ", repeat=length):
                text = "".join(characters)
                try:
                    value = decode(text)
                except BadText:
                    continue
                self.assertEqual(encode(value), text)
                decoded.add(text)
        within = {text for text in known if len(text) <= 5 and set(text) <= set("();:-012a ")}
        self.assertTrue(within)
        self.assertEqual(within - decoded, set())


class RefusedTest(DecodeCase):
    def test_the_empty_string(self):
        self.assert_refused("")

    def test_characters_after_the_end(self):
        self.assert_all_refused(("1;", "1 ", "12a", "0:a", "2:abc", "()1", "())", "(1;))", "()()", "1:a;", "-1-",
                                 "1:a1:a"))

    def test_a_text_that_ends_too_early(self):
        self.assert_all_refused(("-", "(", "2:a", "1:", "(1", "(1;", "(1;(2;)", "((", "(2:a;)", "(-;)", "99999:a"))

    def test_each_beginning_of_a_text(self):
        text = "(4:cast;(0;2;);-3;3:it;;0:;();)"
        self.assert_all_refused([text[:end] for end in range(len(text))])

    def test_leading_zeros(self):
        self.assert_all_refused(("00", "01", "-01", "-00", "000", "02:ab", "00:", "(01;)", "(00:;)"))

    def test_minus_zero(self):
        self.assert_all_refused(("-0", "(-0;)", "-0:", "-0:a"))

    def test_a_negative_length(self):
        self.assert_all_refused(("-1:", "-1:a", "-2:ab", "(-1:a;)", "-10:0123456789"))
        # Here four characters back from the colon is the semicolon of the item before.
        self.assert_all_refused(("(5;-4:;)", "(5;-3:;)", "(5;-5:;)"))

    def test_an_item_without_a_semicolon(self):
        self.assert_all_refused(("(1)", "(1;2)", "(())", "(1:a)", "((1;))", "(1;()2;)", "(1,2)", "(1:a1:b;)"))

    def test_a_semicolon_without_an_item(self):
        self.assert_all_refused((";", "(;)", "(1;;)", "(;1;)", "(();;)", "(1;;2;)", "((;);)"))

    def test_a_space_outside_of_a_string(self):
        self.assert_all_refused((" ", " 1", "1 ", "- 1", "1 2", "( )", "(1 ;)", "(1; 2;)", "( 1;)", "1 :a", " 1:a",
                                 "1:a "))

    def test_other_signs(self):
        self.assert_all_refused(("+1", "--1", "1-", "1_0", "0x1", "1.0", "1e3", "a", "'a'", ":", ":a", "-:a",
                                 "(:a;)", ")", "[1;]"))

    def test_characters_that_are_not_printable(self):
        for code in (0, 9, 10, 13, 31, 37, 127, 128, 160, 255, 0x20ac, 0xd800, 0x1f600):
            self.assert_all_refused((chr(code), "1:" + chr(code), "1" + chr(code), chr(code) + "1",
                                     "(2:a" + chr(code) + ";)", "(1;" + chr(code) + ")"))

    def test_digits_that_are_not_ascii(self):
        for code in (0x00b2, 0x0661, 0x0967, 0xff11):
            self.assert_all_refused((chr(code), "1" + chr(code), "-" + chr(code), chr(code) + ":a"))

    def test_values_that_are_no_strings(self):
        values = not_plain() + [("an integer", 1), ("a tuple", (1,)), ("bytes of a text", b"1")]
        for label, value in values:
            with self.subTest(label):
                self.assert_refused(value)

    def test_the_error_is_a_muster_error(self):
        with self.assertRaises(MusterError):
            decode("01")


class LimitTest(DecodeCase):
    def test_integers_of_24_digits(self):
        for digits in ("9" * 24, "1" + "0" * 23):
            self.assert_decoded(digits, int(digits))
            self.assert_decoded("-" + digits, -int(digits))
            self.assert_decoded(f"({digits};)", (int(digits),))

    def test_integers_of_more_digits_are_refused(self):
        for digits in ("9" * 25, "1" + "0" * 24, "1" * 5000, "1" * 100000, "0" * 25):
            self.assert_all_refused((digits, "-" + digits[:99999], f"({digits[:99997]};)", digits[:99998] + ":a"))

    def test_a_length_that_is_far_too_great(self):
        self.assert_all_refused(("9" * 24 + ":a", "100000:a", "(" + "9" * 24 + ":a;)"))

    def test_a_text_of_depth_8(self):
        self.assert_decoded("(" * 8 + ")" + ";)" * 7, ((((((((),),),),),),),))
        self.assert_decoded("(" * 8 + "5" + ";)" * 8, ((((((((5,),),),),),),),))
        deep = "(" * 7 + ")" + ";)" * 6 + ";"
        value = (((((((),),),),),),)
        self.assert_decoded("(" + deep * 3 + ")", (value, value, value))

    def test_a_text_of_depth_9_is_refused(self):
        deep = "(" * 8 + ")" + ";)" * 7 + ";"
        self.assert_all_refused(("(" * 9 + ")" + ";)" * 8, "(" * 9 + "5" + ";)" * 9, "(" + deep + ")",
                                 "(1;" + deep + ")", "(" + deep + "1;)", "(1:a;" + deep + ")"))

    def test_a_very_deep_text_is_refused(self):
        self.assert_all_refused(("(" * 100000, "(" * 30000 + ")" + ";)" * 29999))

    def test_texts_of_100000_characters(self):
        self.assert_decoded("99994:" + "a" * 99994, "a" * 99994)
        self.assert_decoded("(" + "0;" * 49999 + ")", (0,) * 49999)

    def test_texts_of_100001_characters_are_refused(self):
        self.assert_all_refused(("99995:" + "a" * 99995, "(10;" + "0;" * 49998 + ")", "(99992:" + "a" * 99992 + ";)"))


class NoChangeTest(DecodeCase):
    def test_the_arguments_are_not_modified(self):
        value = ["1", ["2"]]
        self.assert_refused(value)
        self.assertEqual(value, ["1", ["2"]])

    def test_the_same_call_has_the_same_result_again(self):
        for _ in range(3):
            self.assert_decoded("(1;1:a;)", (1, "a"))
            self.assert_refused("(1;1:a)")


if __name__ == "__main__":
    unittest.main()
