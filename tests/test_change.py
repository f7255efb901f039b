"""Points 500 to 506: changing views."""

import itertools
import random
import unittest

from mustercall.change import Attempt, rest_of
from mustercall.errors import BadView
from mustercall.letters import is_letter, is_log

A, B, C, D = (0, 2), (1, 1), (2, 7), (3, 4)
ID = (9, A)
OLD, OTHER, LATE = (4, A), (4, B), (7, D)


def log_of(*texts):
    """Return the log of messages that are written like "A1", with the text "a1"."""
    members = {"A": A, "B": B, "C": C, "D": D}
    return tuple((members[text[0]], int(text[1:]), text.lower()) for text in texts)


def state(sender, view_id, log=(), pending=(), attempt=ID):
    return ("state", sender, attempt, view_id, log, pending)


def attempt_of(*letters):
    """Return an attempt of the senders of these state letters, which it has been given."""
    attempt = Attempt(ID, tuple(sorted(letter[1] for letter in letters)))
    for letter in letters:
        attempt.add(letter)
    return attempt


class AttemptTest(unittest.TestCase):
    def test_a_new_attempt(self):
        attempt = Attempt(ID, (A, B, C))
        self.assertEqual((attempt.id, attempt.members), (ID, (A, B, C)))
        self.assertEqual(attempt.missing(), [A, B, C])
        self.assertIs(attempt.ready(), False)

    def test_states_in_each_order(self):
        for senders in itertools.permutations((A, B, C)):
            attempt = Attempt(ID, (A, B, C))
            for count, sender in enumerate(senders, start=1):
                self.assertIs(attempt.add(state(sender, OLD)), True)
                self.assertEqual(attempt.missing(), sorted(senders[count:]))
                self.assertIs(attempt.ready(), count == 3)
            self.assertEqual((attempt.id, attempt.members), (ID, (A, B, C)))

    def test_an_attempt_of_one_member(self):
        attempt = Attempt(ID, (A,))
        self.assertIs(attempt.add(state(A, (0, A))), True)
        self.assertEqual((attempt.missing(), attempt.ready()), ([], True))
        self.assertEqual(attempt.finals(), (((0, A), ()),))

    def test_states_for_another_attempt(self):
        attempt = Attempt(ID, (A, B))
        for other in ((8, A), (10, A), (9, B), (9, (0, 1)), OLD):
            self.assertIs(attempt.add(state(B, OLD, attempt=other)), False)
            self.assertEqual(attempt.missing(), [A, B])
        self.assertIs(attempt.add(state(B, ID)), True)

    def test_states_of_strangers(self):
        attempt = Attempt(ID, (A, B))
        for sender in (C, (1, 2), (0, 1), (0, 3)):
            self.assertIs(attempt.add(state(sender, OLD)), False)
        self.assertEqual(attempt.missing(), [A, B])
        attempt.add(state(A, OLD))
        attempt.add(state(B, OLD))
        self.assertIs(attempt.add(state(C, OTHER)), False)
        self.assertEqual(attempt.finals(), ((OLD, ()),))

    def test_the_first_state_of_a_member_counts(self):
        attempt = Attempt(ID, (A, B))
        self.assertIs(attempt.add(state(A, OLD, log_of("A1"))), True)
        self.assertIs(attempt.add(state(A, OLD, log_of("A1", "A2"))), False)
        self.assertIs(attempt.add(state(A, OLD, log_of("A1"))), False)
        self.assertIs(attempt.add(state(A, OTHER)), False)
        self.assertEqual(attempt.missing(), [B])
        self.assertIs(attempt.add(state(B, OLD)), True)
        self.assertIs(attempt.add(state(B, OLD, log_of("A1", "A2", "A3"))), False)
        self.assertEqual(attempt.finals(), ((OLD, log_of("A1")),))

    def test_the_list_of_the_missing_is_new(self):
        attempt = Attempt(ID, (A, B))
        missing = attempt.missing()
        missing.clear()
        self.assertEqual(attempt.missing(), [A, B])
        missing = attempt.missing()
        attempt.add(state(A, OLD))
        self.assertEqual((missing, attempt.missing()), ([A, B], [B]))

    def test_attempts_are_independent(self):
        one, other = Attempt(ID, (A, B)), Attempt(ID, (A, B))
        one.add(state(A, OLD))
        self.assertEqual(other.missing(), [A, B])


class FinalsTest(unittest.TestCase):
    def assert_finals(self, letters, *finals):
        """Fail unless the attempt has these finals, in whatever order its states come."""
        for letter in letters:
            self.assertTrue(is_letter(4, letter), letter)
        for order in itertools.permutations(letters):
            self.assertEqual(attempt_of(*order).finals(), finals)

    def test_an_attempt_that_is_not_ready(self):
        attempt = Attempt(ID, (A, B))
        for letter in (state(A, OLD), state(C, OLD), state(B, OLD, attempt=OTHER)):
            with self.assertRaises(BadView) as caught:
                attempt.finals()
            self.assertIs(type(caught.exception), BadView)
            attempt.add(letter)
        with self.assertRaises(BadView):
            attempt.finals()
        attempt.add(state(B, OLD))
        self.assertEqual(attempt.finals(), ((OLD, ()),))

    def test_empty_states(self):
        self.assert_finals((state(A, OLD), state(B, OLD), state(C, OLD)), (OLD, ()))

    def test_the_longest_log(self):
        log = log_of("A1", "B1", "A2", "C1")
        for lengths in itertools.product(range(5), repeat=3):
            letters = [state(member, OLD, log[:length]) for member, length in zip((A, B, C), lengths)]
            self.assert_finals(letters, (OLD, log[:max(lengths)]))

    def test_pending_casts_follow_the_log(self):
        log = log_of("A1", "B1")
        self.assert_finals((state(A, OLD, log), state(B, OLD, log[:1], ((1, "b1"), (2, "b2"))),
                            state(C, OLD, (), ((1, "c1"), (2, "c2"), (3, "c3")))),
                           (OLD, log + log_of("B2", "C1", "C2", "C3")))

    def test_pending_casts_of_the_members_in_ascending_order(self):
        self.assert_finals((state(B, OLD, (), ((1, "b1"),)), state(D, OLD, (), ((1, "d1"), (2, "d2"))),
                            state(C, OLD, (), ((1, "c1"),))),
                           (OLD, log_of("B1", "C1", "D1", "D2")))

    def test_pending_casts_in_the_longest_log_are_not_repeated(self):
        log = log_of("A1", "C1", "C2", "B1")
        for delivered in range(4):
            pending = tuple((index, f"c{index}") for index in range(1, 4))
            own = min(max(delivered - 1, 0), 2)
            self.assert_finals((state(A, OLD, log), state(B, OLD, log[:2]),
                                state(C, OLD, log[:delivered], pending[own:])),
                               (OLD, log + log_of("C3")))
        self.assert_finals((state(A, OLD, log), state(C, OLD, (), ((1, "c1"), (2, "c2")))), (OLD, log))
        self.assert_finals((state(A, OLD, log), state(C, OLD, (), ((1, "c1"),))), (OLD, log))

    def test_the_longest_log_is_that_of_a_member_with_pending_casts(self):
        log = log_of("A1", "B1", "C1")
        self.assert_finals((state(A, OLD, log[:1]), state(B, OLD, log, ((2, "b2"),)), state(C, OLD, (), ((1, "c1"),))),
                           (OLD, log + log_of("B2")))

    def test_pending_casts_of_members_in_another_view_do_not_count(self):
        self.assert_finals((state(A, OLD, log_of("A1")), state(B, OTHER, (), ((1, "b1"),))),
                           (OLD, log_of("A1")), (OTHER, log_of("B1")))

    def test_several_old_views(self):
        self.assert_finals((state(A, LATE, log_of("A1", "D1")), state(B, OTHER, log_of("B1", "B2")),
                            state(C, OLD, (), ((1, "c1"),)), state(D, LATE, log_of("A1"), ((1, "d1"), (2, "d2")))),
                           (OLD, log_of("C1")), (OTHER, log_of("B1", "B2")), (LATE, log_of("A1", "D1", "D2")))

    def test_the_finals_are_in_ascending_order_of_the_ids(self):
        ids = ((0, D), (3, (0, 1)), (3, A), (3, B), (10, A))
        for some in itertools.permutations(ids, 4):
            letters = [state(member, view_id) for member, view_id in zip((A, B, C, D), some)]
            attempt = attempt_of(*letters)
            self.assertEqual(attempt.finals(), tuple((view_id, ()) for view_id in sorted(some)))

    def test_first_views_of_new_members(self):
        self.assert_finals((state(A, (0, A), log_of("A1", "A2")), state(B, (0, B)), state(C, (0, C), log_of("C1"))),
                           ((0, A), log_of("A1", "A2")), ((0, B), ()), ((0, C), log_of("C1")))

    def test_another_life_of_a_process_is_another_member(self):
        old = ((2, 6), 1, "old")
        self.assert_finals((state(A, OLD, (old,)), state(C, OLD, (), ((1, "c1"),))), (OLD, (old,) + log_of("C1")))

    def test_the_finals_may_be_asked_again(self):
        attempt = attempt_of(state(A, OLD, log_of("A1")), state(B, OLD, (), ((1, "b1"),)))
        self.assertEqual(attempt.finals(), attempt.finals())
        self.assertEqual(attempt.missing(), [])

    def test_the_finals_stand_in_an_install_letter(self):
        attempt = attempt_of(state(A, LATE, log_of("A1", "D1")), state(B, OTHER, (), ((1, "b1"),)),
                             state(D, LATE, log_of("A1"), ((1, "d1"), (2, "d2"))))
        self.assertTrue(is_letter(4, ("install", A, attempt.id, attempt.members, attempt.finals())))


class RestTest(unittest.TestCase):
    LOG = log_of("A1", "B1", "A2", "C1")

    def assert_bad(self, log, final):
        with self.assertRaises(BadView) as caught:
            rest_of(log, final)
        self.assertIs(type(caught.exception), BadView)

    def test_each_prefix(self):
        for end in range(5):
            self.assertEqual(rest_of(self.LOG[:end], self.LOG), list(self.LOG[end:]))
        self.assertEqual(rest_of((), ()), [])

    def test_a_log_that_is_longer_than_the_final(self):
        for end in range(4):
            self.assert_bad(self.LOG, self.LOG[:end])

    def test_a_log_that_is_no_prefix(self):
        for log in (self.LOG[1:], self.LOG[:1] + self.LOG[2:], log_of("B1"), log_of("A1", "C1"),
                    self.LOG[:3] + log_of("B2"), ((A, 1, "A1"),), (((0, 1), 1, "a1"),), ((A, 2, "a1"),)):
            self.assert_bad(log, self.LOG)

    def test_the_list_is_new(self):
        rest = rest_of(self.LOG[:1], self.LOG)
        self.assertIs(type(rest), list)
        rest.clear()
        self.assertEqual(rest_of(self.LOG[:1], self.LOG), list(self.LOG[1:]))


class RunTest(unittest.TestCase):
    """Points 505 and 506: members with prefixes of one log get the same final, and deliver it whole."""

    def test_many_changes(self):
        chance = random.Random(3)
        for _ in range(300):
            full, casts = self.messages(chance)
            letters = []
            for member in (A, B, C):
                log = full[:chance.randint(0, len(full))]
                mine = [message for message in casts if message[0] == member]
                seen = len([message for message in log if message[0] == member])
                pending = tuple(message[1:] for message in mine[seen:])
                letters.append(state(member, OLD, log, pending))
                self.assertTrue(is_letter(4, letters[-1]))
            self.check(attempt_of(*chance.sample(letters, 3)), letters, casts)

    def messages(self, chance):
        """Return a log, and all casts, some of which are not in it."""
        casts = []
        for _ in range(chance.randint(0, 8)):
            sender = chance.choice((A, B, C))
            index = 1 + len([message for message in casts if message[0] == sender])
            casts.append((sender, index, chance.choice("xyz")))
        return tuple(casts[:chance.randint(0, len(casts))]), casts

    def check(self, attempt, letters, casts):
        (view_id, final), = attempt.finals()
        self.assertEqual(view_id, OLD)
        self.assertTrue(is_log(4, final))
        self.assertEqual(sorted(final), sorted(casts))
        for letter in letters:
            log = letter[4]
            self.assertEqual(log + tuple(rest_of(log, final)), final)


if __name__ == "__main__":
    unittest.main()
