"""Points 100 and 108 to 112: processes, members, view ids, payloads and messages."""

import itertools
import unittest

from mustercall.limits import MOST_NUMBER
from mustercall.members import is_member, is_members, is_message, is_payload, is_process, is_view_id
from odd import not_plain

COUNTS = (1, 2, 3, 11, 12)
BAD_COUNTS = (0, -1, 13, 10 ** 30, "3", (3,), ()) + tuple(value for _, value in not_plain())
PERCENT = chr(37)


class Case(unittest.TestCase):
    def assert_answer(self, answer, expected, *labels):
        self.assertIs(answer, expected, ascii(labels)[:150] if labels else None)

    def assert_refused_everywhere(self, is_value, values):
        """Fail if the function accepts one of the values for any count."""
        for count in COUNTS:
            for label, value in values:
                with self.subTest(label, count=count):
                    self.assertIs(is_value(count, value), False)

    def assert_bad_counts_refused(self, is_value, value):
        self.assertIs(is_value(12, value), True)
        for at, count in enumerate(BAD_COUNTS):
            with self.subTest(at=at):
                self.assertIs(is_value(count, value), False)
                self.assertIs(is_value(count, count), False)


class ProcessTest(Case):
    def test_the_processes_of_each_group(self):
        for count in range(1, 13):
            for value in range(-2, 15):
                self.assert_answer(is_process(count, value), 0 <= value < count, count, value)

    def test_what_is_no_process(self):
        self.assert_refused_everywhere(is_process, not_plain() + [
            ("a string", "0"), ("an empty string", ""), ("a tuple", (0,)), ("a member", (0, 1)), ("zero", 0.0),
            ("far below", -10 ** 30), ("far above", 10 ** 30)])

    def test_a_count_that_is_no_count(self):
        self.assert_bad_counts_refused(is_process, 0)
        self.assert_answer(is_process(12, 11), True)
        self.assert_answer(is_process(13, 12), False)
        self.assert_answer(is_process(13, 0), False)


class MemberTest(Case):
    def test_processes_and_lives(self):
        for count in COUNTS:
            for process in (0, count - 1):
                for life in (1, 2, 999, MOST_NUMBER - 1, MOST_NUMBER):
                    self.assert_answer(is_member(count, (process, life)), True, count, process, life)
                for life in (0, -1, MOST_NUMBER + 1, 10 ** 30):
                    self.assert_answer(is_member(count, (process, life)), False, count, process, life)
            for process in (-1, count, count + 1, 10 ** 30):
                self.assert_answer(is_member(count, (process, 1)), False, count, process)

    def test_other_forms(self):
        self.assert_refused_everywhere(is_member, not_plain() + [
            ("an integer", 0), ("a string of two", "01"), ("empty", ()), ("one item", (0,)), ("three items", (0, 1, 1)),
            ("a list", [0, 1]), ("a pair in a tuple", ((0, 1),)), ("strings", ("0", "1")),
            ("members", ((0, 1), (0, 2))), ("a dict", {0: 1, 1: 1}), ("bytes", b"\0\1")])

    def test_wrong_values_at_each_place(self):
        for label, value in not_plain() + [("a string", "1"), ("a tuple", (1,))]:
            with self.subTest(label):
                self.assert_answer(is_member(3, (value, 1)), False)
                self.assert_answer(is_member(3, (1, value)), False)

    def test_true_is_not_one(self):
        for member in ((True, 1), (False, 1), (1, True), (0, True), (True, True)):
            self.assert_answer(is_member(2, member), False, member)

    def test_a_count_that_is_no_count(self):
        self.assert_bad_counts_refused(is_member, (0, 1))


class MembersTest(Case):
    def test_the_examples_of_the_document(self):
        self.assert_answer(is_members(3, ((0, 2), (1, 1))), True)
        self.assert_answer(is_members(3, ((0, 2), (0, 3))), False)

    def test_each_short_tuple_of_members(self):
        some = [(process, life) for process in (0, 1, 2) for life in (1, 2)]
        for length in range(5):
            for members in itertools.product(some, repeat=length):
                processes = [process for process, _ in members]
                expected = length > 0 and processes == sorted(set(processes))
                self.assert_answer(is_members(3, members), expected, members)

    def test_all_processes_of_a_group(self):
        for count in COUNTS:
            members = tuple((process, MOST_NUMBER - process) for process in range(count))
            self.assert_answer(is_members(count, members), True, count)
            self.assert_answer(is_members(count, members + ((count, 1),)), False, count)
            self.assert_answer(is_members(count, members + ((count - 1, 1),)), False, count)
            self.assert_answer(is_members(count, ((count, 1),)), False, count)
        self.assert_answer(is_members(12, ((0, 1), (11, MOST_NUMBER))), True)

    def test_a_process_twice_in_ascending_order(self):
        for members in (((0, 1), (0, 2)), ((0, 1), (0, 1)), ((0, 1), (1, 1), (1, 2)), ((0, 1), (0, 2), (1, 1))):
            self.assert_answer(is_members(3, members), False, members)

    def test_descending_members(self):
        for members in (((1, 1), (0, 2)), ((0, 2), (0, 1)), ((0, 1), (2, 1), (1, 1)), ((2, 1), (0, 1), (1, 1))):
            self.assert_answer(is_members(3, members), False, members)

    def test_other_forms(self):
        self.assert_refused_everywhere(is_members, not_plain() + [
            ("no members", ()), ("a member", (0, 1)), ("a list of members", [(0, 1)]), ("an integer", 0),
            ("a string", "ab"), ("a list in a tuple", ([0, 1],)), ("deeper", (((0, 1),),)), ("a life of 0", ((0, 0),)),
            ("a dict of members", {(0, 1): (0, 1)})])

    def test_wrong_values_at_each_place(self):
        for label, value in not_plain() + [("an integer", 1), ("a string", "ab"), ("empty", ()), ("one", (1,)),
                                           ("three", (1, 1, 1)), ("True", (1, True)), ("list", [1, 1])]:
            with self.subTest(label):
                for members in ((value,), (value, (2, 1)), ((0, 1), value), ((0, 1), value, (2, 1))):
                    self.assert_answer(is_members(3, members), False)

    def test_a_count_that_is_no_count(self):
        self.assert_bad_counts_refused(is_members, ((0, 1),))
        self.assert_answer(is_members(0, ()), False)


class ViewIdTest(Case):
    def test_numbers_and_founders(self):
        for count in COUNTS:
            for number in (0, 1, 7, MOST_NUMBER):
                for founder in ((0, 1), (count - 1, MOST_NUMBER)):
                    self.assert_answer(is_view_id(count, (number, founder)), True, count, number, founder)
                for founder in ((count, 1), (-1, 1), (0, 0), (0, MOST_NUMBER + 1)):
                    self.assert_answer(is_view_id(count, (number, founder)), False, count, number, founder)
            for number in (-1, MOST_NUMBER + 1, 10 ** 30):
                self.assert_answer(is_view_id(count, (number, (0, 1))), False, count, number)

    def test_other_forms(self):
        self.assert_refused_everywhere(is_view_id, not_plain() + [
            ("an integer", 0), ("a string of two", "ab"), ("empty", ()), ("only a number", (0,)), ("flat", (0, 0, 1)),
            ("a member", (0, 1)), ("only a founder", ((0, 1),)), ("turned", ((0, 1), 0)), ("a list", [0, (0, 1)]),
            ("a list as founder", (0, [0, 1])), ("more", (0, (0, 1), 0)), ("a founder too long", (0, (0, 1, 1)))])

    def test_wrong_values_at_each_place(self):
        for label, value in not_plain() + [("a string", "1"), ("a tuple", (1,))]:
            with self.subTest(label):
                self.assert_answer(is_view_id(3, (value, (1, 1))), False)
                self.assert_answer(is_view_id(3, (1, value)), False)
                self.assert_answer(is_view_id(3, (1, (value, 1))), False)
                self.assert_answer(is_view_id(3, (1, (1, value))), False)

    def test_true_is_not_one(self):
        for view_id in ((True, (1, 1)), (False, (1, 1)), (1, (True, 1)), (1, (1, True))):
            self.assert_answer(is_view_id(2, view_id), False, view_id)

    def test_a_count_that_is_no_count(self):
        self.assert_bad_counts_refused(is_view_id, (0, (0, 1)))


class PayloadTest(Case):
    def test_lengths(self):
        for length in range(31):
            self.assert_answer(is_payload("a" * length), True, length)
        for length in (31, 32, 100, 100000):
            self.assert_answer(is_payload("a" * length), False, length)

    def test_each_character(self):
        for code in range(300):
            expected = 32 <= code <= 126 and code != 37
            self.assert_answer(is_payload(chr(code)), expected, code)
            self.assert_answer(is_payload("a" * 29 + chr(code)), expected, code)

    def test_characters_that_are_not_printable(self):
        for character in (PERCENT, "\n", "\t", chr(0), chr(127), chr(0x20ac), chr(0xd800), chr(0x1f600)):
            for text in (character, "a" + character, character + "a"):
                self.assert_answer(is_payload(text), False, text)

    def test_what_is_no_string(self):
        for label, value in not_plain() + [("an integer", 5), ("a tuple", ("a",)), ("an empty tuple", ())]:
            with self.subTest(label):
                self.assert_answer(is_payload(value), False)


class MessageTest(Case):
    def test_senders_indexes_and_payloads(self):
        for count in COUNTS:
            for sender in ((0, 1), (count - 1, MOST_NUMBER)):
                for index in (1, 2, MOST_NUMBER):
                    for payload in ("", "it;", "a" * 30):
                        self.assert_answer(is_message(count, (sender, index, payload)), True, count, sender, index)
            for sender in ((count, 1), (-1, 1), (0, 0), (0, MOST_NUMBER + 1)):
                self.assert_answer(is_message(count, (sender, 1, "a")), False, count, sender)
        for index in (0, -1, MOST_NUMBER + 1):
            self.assert_answer(is_message(3, ((0, 1), index, "a")), False, index)
        for payload in ("a" * 31, PERCENT, "\n", chr(233)):
            self.assert_answer(is_message(3, ((0, 1), 1, payload)), False, payload)

    def test_other_forms(self):
        self.assert_refused_everywhere(is_message, not_plain() + [
            ("an integer", 0), ("a string of three", "abc"), ("empty", ()), ("too short", ((0, 1), 1)),
            ("too long", ((0, 1), 1, "a", "b")), ("flat", (0, 1, 1, "a")), ("a list", [(0, 1), 1, "a"]),
            ("a list as sender", ([0, 1], 1, "a")), ("turned", (1, (0, 1), "a")), ("two turned", ((0, 1), "a", 1))])

    def test_wrong_values_at_each_place(self):
        for label, value in not_plain() + [("a tuple", (1,)), ("an empty tuple", ())]:
            with self.subTest(label):
                self.assert_answer(is_message(3, (value, 1, "a")), False)
                self.assert_answer(is_message(3, ((0, 1), value, "a")), False)
                self.assert_answer(is_message(3, ((0, 1), 1, value)), False)
        self.assert_answer(is_message(3, ((0, 1), "1", "a")), False)
        self.assert_answer(is_message(3, ((0, 1), 1, 1)), False)
        self.assert_answer(is_message(3, (1, 1, "a")), False)

    def test_a_count_that_is_no_count(self):
        self.assert_bad_counts_refused(is_message, ((0, 1), 1, "a"))


class NoChangeTest(Case):
    def test_the_arguments_are_not_modified(self):
        for value in ([0, 1], [(0, 1)], [[0, 1], 1, "a"], {0: 1}, {0, 1}, bytearray(b"ab"), ([0], [1]),
                      ([0], [1], "a")):
            before = repr(value)
            for is_value in (is_process, is_member, is_members, is_view_id, is_message):
                is_value(3, value)
                is_value(value, value)
            is_payload(value)
            self.assertEqual(repr(value), before)


if __name__ == "__main__":
    unittest.main()
