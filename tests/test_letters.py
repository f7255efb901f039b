"""Points 100 and 113 to 119: logs, pending casts and letters."""

import itertools
import unittest

from mustercall.errors import BadLetter, BadText
from mustercall.letters import check_letter, is_letter, is_log, is_pending, last_index
from mustercall.limits import MOST_LENGTH, MOST_NUMBER
from mustercall.texts import decode, encode
from odd import not_plain

PERCENT = chr(37)
BAD_COUNTS = (0, -1, 13, 10 ** 30, "3", (3,)) + tuple(value for _, value in not_plain())

ONE = (0, 1)
TWO = (1, 4)
LAST = (11, MOST_NUMBER)
ID = (3, ONE)
LOG = ((TWO, 1, "a"), (ONE, 1, "b"), (TWO, 2, ""))

# One letter of each kind, sent by TWO in a group of 3 processes.
LETTERS = (
    ("here", TWO, ID, 2, (5, TWO)),
    ("cast", TWO, ID, 3, "it;"),
    ("order", TWO, ID, 4, (ONE, 2, "it")),
    ("propose", TWO, ID, (ONE, TWO)),
    ("state", TWO, ID, (2, ONE), LOG, ((3, "c"), (4, ""))),
    ("install", TWO, ID, (ONE, TWO), (((1, ONE), LOG), ((2, ONE), ()))),
    ("higher", TWO, ID, (5, TWO)),
)

# Values that are valid at no place of a letter.
NEVER = not_plain() + [("an empty list", []), ("a pair of nothing", (None, None)), ("a long text", "a" * 31),
                       ("minus one", -1), ("above the greatest", MOST_NUMBER + 1)]


def replaced(letter, place, value):
    """Return the letter with another item at the place."""
    return letter[:place] + (value,) + letter[place + 1:]


def of_kind(kind):
    return next(letter for letter in LETTERS if letter[0] == kind)


class Case(unittest.TestCase):
    def assert_letter(self, expected, *letters, count=3):
        for letter in letters:
            with self.subTest(letter=ascii(letter)[:120], count=count):
                self.assertIs(is_letter(count, letter), expected)

    def assert_places(self, kind, place, good, bad):
        """Fail unless a letter of the kind may have the good values at the place, but none of the bad ones."""
        self.assert_letter(True, *[replaced(of_kind(kind), place, value) for value in good])
        self.assert_letter(False, *[replaced(of_kind(kind), place, value) for value in bad])


class LogTest(Case):
    def assert_log(self, expected, *logs, count=3):
        for log in logs:
            with self.subTest(log=ascii(log)[:120], count=count):
                self.assertIs(is_log(count, log), expected)

    def test_the_examples_of_the_document(self):
        self.assert_log(True, (((1, 4), 1, "a"), ((0, 1), 1, "b"), ((1, 4), 2, "")), count=2)
        self.assert_log(False, (((1, 4), 2, "a"),), count=2)

    def test_the_empty_log(self):
        for count in (1, 3, 12):
            self.assert_log(True, (), count=count)

    def test_each_short_order_of_messages(self):
        some = [(sender, index, "x") for sender in (ONE, TWO, (1, 5)) for index in (1, 2)]
        for length in range(5):
            for log in itertools.product(some, repeat=length):
                expected = True
                for at, (sender, index, _) in enumerate(log):
                    before = [message for message in log[:at] if message[0] == sender]
                    expected = expected and index == len(before) + 1
                self.assertIs(is_log(3, log), expected, log)

    def test_many_messages(self):
        log = tuple((sender, index, "a" * 30) for index in range(1, 200) for sender in (ONE, TWO, (2, MOST_NUMBER)))
        self.assert_log(True, log, log[::3], log[1::3] + log[2::3])
        self.assert_log(False, log[3:], log + log[-1:], log[:50] + log[51:], log[::-1])

    def test_two_lives_of_a_process_are_two_senders(self):
        self.assert_log(True, (((1, 4), 1, ""), ((1, 5), 1, "")))
        self.assert_log(False, (((1, 4), 1, ""), ((1, 5), 2, "")))

    def test_wrong_messages(self):
        good = (ONE, 1, "a")
        for message in ((ONE, 0, "a"), (ONE, "1", "a"), (ONE, True, "a"), ((3, 1), 1, "a"), ((0, 0), 1, "a"),
                        (ONE, 1, "a" * 31), (ONE, 1, PERCENT), (ONE, 1), (ONE, 1, "a", "b"), [ONE, 1, "a"], ONE, 1,
                        "abc", (), MOST_NUMBER + 1):
            self.assert_log(False, (message,), ((TWO, 1, ""), message), (good, message), (message, good))

    def test_other_forms(self):
        self.assert_log(False, [], [(ONE, 1, "a")], (ONE, 1, "a"), "", "a", 0, {}, {(ONE, 1, "a"): 1})
        for label, value in not_plain():
            with self.subTest(label):
                self.assertIs(is_log(3, value), False)
                self.assertIs(is_log(3, (value,)), False)

    def test_processes_beyond_the_group_and_bad_counts(self):
        log = ((LAST, 1, "a"),)
        self.assert_log(True, log, count=12)
        for count in (1, 2, 11) + BAD_COUNTS:
            self.assertIs(is_log(count, log), False)


class LastIndexTest(unittest.TestCase):
    def test_the_last_message_of_the_member_counts(self):
        self.assertEqual(last_index(LOG, TWO), 2)
        self.assertEqual(last_index(LOG, ONE), 1)
        self.assertEqual(last_index(LOG + ((ONE, 2, "c"), (ONE, 3, "d"), (TWO, 3, "")), ONE), 3)

    def test_a_member_without_messages(self):
        for member in ((2, 1), (1, 3), (1, 5), (0, 2), (4, 1)):
            self.assertEqual(last_index(LOG, member), 0)
        self.assertEqual(last_index((), ONE), 0)

    def test_each_part_of_a_log(self):
        log = LOG + ((TWO, 3, "x"), (ONE, 2, "y"))
        self.assertEqual([last_index(log[:end], TWO) for end in range(6)], [0, 1, 1, 2, 3, 3])
        self.assertEqual([last_index(log[:end], ONE) for end in range(6)], [0, 0, 1, 1, 1, 2])


class PendingTest(unittest.TestCase):
    def assert_pending(self, expected, *values):
        for value in values:
            with self.subTest(value=ascii(value)[:120]):
                self.assertIs(is_pending(value), expected)

    def test_lists_of_pending_casts(self):
        self.assert_pending(True, (), ((1, "a"),), ((7, ""),), ((1, "a"), (2, "b"), (3, "a" * 30)),
                            ((9, "a"), (10, "a")), ((MOST_NUMBER, "a"),),
                            ((MOST_NUMBER - 1, "a"), (MOST_NUMBER, "b")),
                            tuple((index, "") for index in range(5, 300)))

    def test_indexes_that_do_not_follow(self):
        self.assert_pending(False, ((1, "a"), (1, "a")), ((1, "a"), (3, "b")), ((2, "a"), (1, "b")),
                            ((1, "a"), (2, "b"), (4, "c")), ((1, "a"), (2, "b"), (2, "c")), ((5, ""), (6, ""), (5, "")))

    def test_indexes_beyond_the_limits(self):
        self.assert_pending(False, ((0, "a"),), ((0, "a"), (1, "b")), ((-1, "a"),), ((-1, "a"), (0, "b"), (1, "c")),
                            ((MOST_NUMBER + 1, "a"),), ((MOST_NUMBER, "a"), (MOST_NUMBER + 1, "b")))

    def test_wrong_pairs(self):
        for pair in ((), (1,), (1, "a", "b"), [1, "a"], ("a", 1), (True, "a"), ("1", "a"), (1, 1), (1, None),
                     (1, "a" * 31), (1, PERCENT), (1, ("a",)), "1a", 1, (None, "a"), ((1, "a"),)):
            self.assert_pending(False, (pair,), (pair, (2, "b")), ((1, "a"), pair), ((4, "a"), pair, (5, "a")))

    def test_other_forms(self):
        self.assert_pending(False, [], [(1, "a")], (1, "a"), "", "1a", 0, {1: "a"})
        for label, value in not_plain():
            with self.subTest(label):
                self.assertIs(is_pending(value), False)
                self.assertIs(is_pending((value,)), False)
                self.assertIs(is_pending(((value, "a"),)), False)
                self.assertIs(is_pending(((1, value),)), False)


class LetterTest(Case):
    def test_a_letter_of_each_kind(self):
        self.assert_letter(True, *LETTERS)
        self.assert_letter(True, *LETTERS, count=2)
        self.assert_letter(True, *LETTERS, count=12)

    def test_kinds(self):
        kinds = ["", "Here", "here ", "promise", "view", "crash", "deliver", "her", 0, 1, ("here",), ["here"], {}]
        for letter in LETTERS:
            bad = kinds + [other[0] for other in LETTERS if len(other) != len(letter)]
            self.assert_letter(False, *[replaced(letter, 0, kind) for kind in bad])

    def test_numbers_of_items(self):
        for letter in LETTERS:
            self.assert_letter(False, *[letter[:end] for end in range(len(letter))])
            self.assert_letter(False, *[letter + (more,) for more in (1, None, (), "", ID, letter[-1])])
            self.assert_letter(False, letter[:1] + letter[2:], letter[1:])

    def test_wrong_values_at_each_place(self):
        for letter in LETTERS:
            for place in range(len(letter)):
                for label, value in NEVER:
                    with self.subTest(label, kind=letter[0], place=place):
                        self.assertIs(is_letter(3, replaced(letter, place, value)), False)

    def test_lists_for_tuples(self):
        for letter in LETTERS:
            self.assert_letter(False, list(letter))
            for place, value in enumerate(letter):
                if isinstance(value, tuple):
                    self.assert_letter(False, replaced(letter, place, list(value)))
                    for inner, part in enumerate(value):
                        if isinstance(part, tuple):
                            self.assert_letter(False, replaced(letter, place, replaced(value, inner, list(part))))

    def test_what_is_no_tuple(self):
        for label, value in NEVER + [("the empty tuple", ()), ("the kind", "here"), ("a kind alone", ("here",)),
                                     ("a dict", {"here": TWO}), ("a tuple of a letter", (LETTERS[0],))]:
            with self.subTest(label):
                self.assertIs(is_letter(3, value), False)

    def test_senders(self):
        for letter in LETTERS:
            if letter[0] != "state":
                self.assert_letter(True, *[replaced(letter, 1, sender) for sender in (ONE, (2, 1), (2, MOST_NUMBER))])
            bad = ((3, 1), (-1, 1), (0, 0), (0, MOST_NUMBER + 1), (True, 4), (1, True), (1,), (1, 4, 4), (), 1, "ab",
                   ID, [1, 4])
            self.assert_letter(False, *[replaced(letter, 1, sender) for sender in bad])

    def test_ids(self):
        for letter in LETTERS:
            self.assert_letter(True, *[replaced(letter, 2, view_id) for view_id in ((0, ONE), (5, ONE), (5, TWO))])
            bad = ((-1, ONE), (MOST_NUMBER + 1, ONE), (True, ONE), (1, (3, 1)), (1, (0, 0)), (1, (0, True)), (1,), ONE,
                   (1, ONE, ONE), (), 1, "ab", [1, ONE], (ONE, 1))
            self.assert_letter(False, *[replaced(letter, 2, view_id) for view_id in bad])
            if letter[0] != "here":
                self.assert_letter(True, replaced(letter, 2, (MOST_NUMBER, (2, MOST_NUMBER))))

    def test_each_process_of_a_letter_is_a_process_of_the_group(self):
        # Each of these letters names the last process of a group of 12 at just one place.
        letters = []
        for letter in LETTERS:
            if letter[0] != "state":
                letters.append(replaced(letter, 1, LAST))
            letters.append(replaced(letter, 2, (1, LAST)))
        letters += [
            ("state", LAST, ID, (2, ONE), LOG, ()), ("here", TWO, ID, 2, (5, LAST)), ("higher", TWO, ID, (5, LAST)),
            ("order", TWO, ID, 4, (LAST, 2, "it")), ("propose", TWO, ID, (ONE, TWO, LAST)),
            ("state", TWO, ID, (2, LAST), LOG, ()), ("state", TWO, ID, (2, ONE), LOG + ((LAST, 1, ""),), ()),
            ("install", TWO, ID, (TWO, LAST), ()), ("install", TWO, ID, (ONE,), (((1, LAST), ()),)),
            ("install", TWO, ID, (ONE,), (((1, ONE), ((LAST, 1, ""),)),)),
        ]
        self.assert_letter(True, *letters, count=12)
        self.assert_letter(False, *letters, count=11)

    def test_a_group_of_one_process(self):
        mine = ("propose", (0, 1), (0, (0, 1)), ((0, 1),))
        self.assert_letter(True, mine, count=1)
        self.assert_letter(False, *LETTERS, count=1)

    def test_a_count_that_is_no_count(self):
        mine = ("propose", (0, 1), (0, (0, 1)), ((0, 1),))
        for at, count in enumerate(BAD_COUNTS):
            for letter in LETTERS + (mine,):
                with self.subTest(at=at, kind=letter[0]):
                    self.assertIs(is_letter(count, letter), False)
            self.assertIs(is_letter(count, count), False)


class KindTest(Case):
    def test_here(self):
        self.assert_places("here", 3, (0, 1, MOST_NUMBER), (-1, MOST_NUMBER + 1, True, False, "1", (1,), ""))
        self.assert_places("here", 4, (ID, (3, (0, 2)), (3, TWO), (4, ONE), (MOST_NUMBER, (2, 1))),
                           ((2, ONE), (2, TWO), (0, ONE), (1,), (5, ONE, ONE), ONE, (True, TWO), (5, (3, 1)), 5, ()))

    def test_promised_in_here_is_not_less_than_id(self):
        ids = [(number, founder) for number in (0, 3, 4) for founder in (ONE, (0, 2), TWO, (1, 5))]
        for view_id in ids:
            for promised in ids:
                self.assert_letter(promised >= view_id, ("here", TWO, view_id, 0, promised))

    def test_promised_in_higher_may_be_any_id(self):
        self.assert_places("higher", 3, (ID, (2, ONE), (0, ONE), (4, ONE), (MOST_NUMBER, (2, MOST_NUMBER))),
                           ((-1, ONE), (1,), (5, ONE, ONE), ONE, (True, TWO), (5, (3, 1)), 5, (), "ab"))

    def test_cast(self):
        self.assert_places("cast", 3, (1, 2, MOST_NUMBER), (0, -1, MOST_NUMBER + 1, True, "1", (1,), ""))
        self.assert_places("cast", 4, ("", "a" * 30, "~ ;"), ("a" * 31, PERCENT, "\n", chr(233), 1, ("a",), ()))

    def test_order(self):
        self.assert_places("order", 3, (1, 2, MOST_NUMBER), (0, -1, MOST_NUMBER + 1, True, "1", (1,), ""))
        self.assert_places("order", 4, ((TWO, 1, ""), (ONE, MOST_NUMBER, "a" * 30), ((2, 7), 5, "a")),
                           ((ONE, 0, "a"), (ONE, MOST_NUMBER + 1, "a"), ((3, 1), 1, "a"), (ONE, 1), (ONE, 1, "a", "b"),
                            (ONE, 1, "a" * 31), (ONE, 1, PERCENT), (ONE, True, "a"), (1, 1, "a"), (), "abc", 1))

    def test_propose(self):
        self.assert_places("propose", 3, ((ONE,), (TWO,), (ONE, TWO), (ONE, (2, MOST_NUMBER)), ((0, 9), TWO, (2, 2))),
                           ((), (TWO, ONE), (ONE, ONE), (ONE, (0, 2)), ONE, (ONE, (3, 1)), (ONE, (1, 0)), (ONE, 1),
                            ((0, True),), 1, "ab"))

    def test_install(self):
        self.assert_places("install", 3, ((ONE,), (TWO,), (ONE, TWO, (2, 2))),
                           ((), (TWO, ONE), (ONE, ONE), ONE, (ONE, (3, 1)), 1, "ab"))

    def test_finals(self):
        first, second, third = ((1, ONE), ()), ((1, TWO), LOG), ((2, ONE), LOG[:1])
        self.assert_places(
            "install", 4, ((), (first,), (second,), (first, second), (first, third), (first, second, third)),
            ((first, first), (second, first), (third, first), (first, third, second), (first, second, second),
             (second, ((1, TWO), ())), first, ((1, ONE),), ((1, ONE, ()),), (((1, ONE), (), ()),), ((ONE, ()),),
             (((1, ONE),),), (((1, ONE), LOG[2:]),), (((1, ONE), LOG + LOG),), (((-1, ONE), ()),), (((1, ONE), 1),),
             (((1, ONE), LOG[0]),), (first, 1), (first, ()), (1, first), "", 1, ({},)))

    def test_many_finals(self):
        finals = tuple(((number, TWO), LOG) for number in range(100)) + (((MOST_NUMBER, ONE), ()),)
        self.assert_places("install", 4, (finals,), (finals[::-1], finals + finals[-1:], finals[:5] + finals[4:]))

    def test_state(self):
        self.assert_places("state", 3, ((0, ONE), (MOST_NUMBER, (2, 1))),
                           ((-1, ONE), (1,), (5, ONE, ONE), ONE, (True, TWO), (5, (3, 1)), 5, ()))
        self.assert_places("state", 4, (LOG,), (LOG[:2], LOG[1:], LOG + LOG, LOG[0], (1,), "", 1))

    def test_pending_in_state(self):
        self.assert_places("state", 5, ((), ((3, ""),), tuple((index, "a") for index in range(3, 60))),
                           (((1, ""),), ((2, ""),), ((4, ""),), ((2, ""), (3, "")), ((3, ""), (5, "")),
                            ((3, ""), (3, "")), ((3, "a" * 31),), ((3, 1),), ((3,),), (3, ""), ((True, ""),), 1, ""))

    def test_pending_begins_just_behind_the_log(self):
        for last in range(4):
            log = ((ONE, 1, "x"),) + tuple((TWO, index, "") for index in range(1, last + 1))
            for first in range(1, 6):
                pending = ((first, "a"), (first + 1, "b"))
                self.assert_letter(first == last + 1, ("state", TWO, ID, (2, ONE), log, pending))
            self.assert_letter(True, ("state", TWO, ID, (2, ONE), log, ()))

    def test_messages_of_others_do_not_count_for_pending(self):
        # The log has messages of another life of the sender's process, and of another member.
        log = (((1, 3), 1, ""), (ONE, 1, ""), (ONE, 2, ""))
        self.assert_letter(True, ("state", TWO, ID, (2, ONE), log, ((1, "a"),)))
        self.assert_letter(False, ("state", TWO, ID, (2, ONE), log, ((2, "a"),)),
                           ("state", TWO, ID, (2, ONE), log, ((3, "a"),)))


class CheckTest(unittest.TestCase):
    def assert_bad(self, count, receiver, letter):
        with self.assertRaises(BadLetter) as caught:
            check_letter(count, receiver, letter)
        self.assertIs(type(caught.exception), BadLetter)

    def test_the_examples_of_the_document(self):
        letter = ("propose", (1, 4), (7, (1, 4)), ((1, 4),))
        self.assertEqual(check_letter(2, 0, letter), letter)
        self.assert_bad(2, 1, letter)

    def test_each_receiver(self):
        for letter in LETTERS:
            for count in (2, 3, 12):
                for receiver in range(-1, 14):
                    with self.subTest(kind=letter[0], count=count, receiver=receiver):
                        if 0 <= receiver < count and receiver != 1:
                            self.assertIs(check_letter(count, receiver, letter), letter)
                        else:
                            self.assert_bad(count, receiver, letter)

    def test_a_receiver_of_another_life_is_the_same_process(self):
        for life in (1, 5, MOST_NUMBER):
            letter = ("higher", (2, life), ID, ID)
            self.assert_bad(3, 2, letter)
            self.assertEqual(check_letter(3, 0, letter), letter)

    def test_receivers_that_are_no_process(self):
        for label, receiver in not_plain() + [("a string", "0"), ("a member", (0, 1)), ("a tuple", (0,))]:
            with self.subTest(label):
                self.assert_bad(3, receiver, LETTERS[0])

    def test_true_is_no_process(self):
        self.assert_bad(3, False, LETTERS[0])
        self.assert_bad(3, True, ("higher", (2, 1), ID, ID))

    def test_what_is_no_letter(self):
        for label, value in NEVER + [("the empty tuple", ()), ("a kind", ("here",)), ("a string", "here"),
                                     ("a list", list(LETTERS[0])), ("an unknown kind", ("hello",) + LETTERS[0][1:]),
                                     ("a stranger", ("higher", (3, 1), ID, ID))]:
            with self.subTest(label):
                self.assert_bad(3, 0, value)

    def test_a_count_that_is_no_count(self):
        for at, count in enumerate(BAD_COUNTS):
            with self.subTest(at=at):
                self.assert_bad(count, 0, LETTERS[0])

    def test_a_group_of_one_process_has_no_letters_to_receive(self):
        self.assert_bad(1, 0, ("higher", (0, 1), (1, (0, 1)), (1, (0, 1))))


def depth(value):
    """Return the depth of a plain value (point 104)."""
    if not isinstance(value, tuple):
        return 0
    return 1 + max((depth(item) for item in value), default=0)


class PlainTest(unittest.TestCase):
    """Point 119."""

    # The greatest letters: all processes, the greatest numbers and the longest payloads.
    MEMBERS = tuple((process, MOST_NUMBER) for process in range(12))
    GREATEST = (MOST_NUMBER, LAST)
    MESSAGES = tuple((member, 1, "a" * 30) for member in MEMBERS)
    GREAT = (
        ("here", LAST, GREATEST, MOST_NUMBER, GREATEST),
        ("cast", LAST, GREATEST, MOST_NUMBER, "~" * 30),
        ("order", LAST, GREATEST, MOST_NUMBER, (LAST, MOST_NUMBER, "a" * 30)),
        ("propose", LAST, GREATEST, MEMBERS),
        ("state", LAST, GREATEST, GREATEST, MESSAGES, ((2, ""), (3, "a" * 30))),
        ("install", LAST, GREATEST, MEMBERS, (((7, ONE), MESSAGES), ((7, LAST), ()), (GREATEST, MESSAGES))),
        ("higher", LAST, GREATEST, GREATEST),
    )

    def test_each_letter_is_a_plain_value(self):
        for letter in LETTERS + self.GREAT:
            self.assertTrue(is_letter(12, letter))
            self.assertEqual(decode(encode(letter)), letter)
            self.assertLessEqual(depth(letter), 6)

    def test_the_depth_of_each_kind(self):
        depths = {"here": 3, "cast": 3, "order": 3, "propose": 3, "state": 4, "install": 6, "higher": 3}
        for letter in LETTERS + self.GREAT:
            self.assertEqual(depth(letter), depths[letter[0]])

    def test_a_letter_whose_text_is_too_long(self):
        log = tuple((ONE, index, "a" * 30) for index in range(1, MOST_LENGTH // 50))
        letter = ("install", ONE, ID, (ONE,), ((ID, log), ((4, ONE), log)))
        self.assertIs(is_letter(1, letter), True)
        self.assertEqual(depth(letter), 6)
        with self.assertRaises(BadText):
            encode(letter)


class NoChangeTest(unittest.TestCase):
    def test_the_arguments_are_not_modified(self):
        for value in ([1, "a"], [(1, "a")], ([1, "a"],), list(LETTERS[4]), replaced(LETTERS[4], 4, list(LOG)),
                      {1: "a"}, bytearray(b"ab")):
            before = repr(value)
            is_log(3, value)
            is_pending(value)
            is_letter(3, value)
            is_letter(value, value)
            with self.assertRaises(BadLetter):
                check_letter(3, 0, value)
            self.assertEqual(repr(value), before)


if __name__ == "__main__":
    unittest.main()
