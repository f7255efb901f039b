"""Points 602, 606, 608 and 610: the greatest number seen, leading, promising, and the states of an attempt."""

import itertools
import unittest

from mustercall.limits import MOST_NUMBER
from mustercall.watch import SILENCE
from scenes import (A, B, C, D, but_heres, empty_finals, follower, future, here, install, leader, leading, new,
                    promised, propose, sight, state, to_each)

TRIO = (A, B, C)
VIEW = (1, A)


def led(member):
    """Tick the member, and return what it sends but the here letters."""
    return but_heres(member.tick())


class NumberTest(unittest.TestCase):
    """Point 602: an attempt has the number behind the greatest one that was seen."""

    def assert_seen(self, number, *letters):
        """Fail unless this is the greatest number that a new member has seen after these letters of B."""
        member = new(A)
        for letter in letters:
            member.receive(letter)
        self.assertEqual(led(member), to_each(propose((number + 1, A), A, B), B))

    def test_nothing_but_first_views(self):
        self.assert_seen(0, here(B))

    def test_each_letter_that_is_taken(self):
        low, high = (2, C), (7, D)
        finals = ((low, ()), ((3, A), ()), (high, ()))
        letters = [
            here(B, high), here(B, low, 0, high),
            ("cast", B, high, 1, "a"), ("order", B, high, 1, (B, 1, "a")),
            propose((7, B), C, D), ("propose", B, high, (A, B)), ("propose", B, high, (C,)),
            state(B, high, low), state(B, low, high),
            ("install", B, high, (A, B), ()), ("install", B, low, (A, B), finals), install((7, B), (C,)),
            ("install", B, high, (A, B), (((2, C), ()),)),
            ("higher", B, high, low), ("higher", B, low, high),
        ]
        for letter in letters:
            with self.subTest(letter=letter):
                self.assert_seen(7, letter)
                self.assert_seen(7, letter, here(B))
                self.assert_seen(7, here(B), letter, here(B, (6, B), 0, (6, C)))
                self.assert_seen(8, letter, here(B, (8, B)))

    def test_numbers_that_are_no_numbers_of_views_do_not_count(self):
        for letter in (here((1, 9), None, 40), ("cast", B, (0, B), 50, "a"), ("order", B, (0, B), 60, (C, 70, "a")),
                       state(B, (0, B), None, ((C, 1, "a"),), ((1, "8"), (2, "9")))):
            member = new(A)
            member.receive(letter)
            self.assertEqual(led(member)[0][1][2], (1, A))

    def test_letters_that_are_not_taken_do_not_count(self):
        self.assert_seen(0, here(B), ("here", B, (9, B), 0, (8, B)), ("here", B, (9, B), 0), here(A, (9, A)),
                         here((4, 1), (9, (4, 1))), None)
        member = new(A)
        member.receive(here((1, 5)))
        member.receive(here((1, 4), (9, B)))
        self.assertEqual(led(member), to_each(propose((1, A), A, (1, 5)), B))

    def test_numbers_of_the_member_itself(self):
        member = leader(A, B)
        member.receive(here(B, VIEW))
        member.receive(here(C))
        self.assertEqual(led(member), to_each(propose((2, A), A, B, C), B, C))
        member.receive(here(D))
        self.assertEqual(led(member), to_each(propose((3, A), A, B, C, D), B, C, D))

    def test_a_promised_number(self):
        member = promised(B, (4, A), *TRIO)
        member.receive(here(C))
        for _ in range(SILENCE):
            self.assertEqual(led(member), [])
            member.receive(here(C))
        self.assertEqual(led(member), to_each(propose((5, B), B, C), C))

    def test_the_greatest_number_of_all(self):
        member = new(A)
        member.receive(here(B, (MOST_NUMBER, B)))
        self.assertEqual(led(member), to_each(propose((MOST_NUMBER + 1, A), A, B), B))


class LeadTest(unittest.TestCase):
    def test_no_change_is_needed(self):
        self.assertEqual(led(new(A)), [])
        member = leader(A, B, C)
        for _ in range(10):
            member.receive(here(B, VIEW))
            member.receive(here(C, VIEW))
            self.assertEqual(led(member), [])
        self.assertEqual(member.view(), (VIEW, TRIO))

    def test_beginning_an_attempt(self):
        for me, others in ((A, (B,)), (A, (D,)), (A, (B, C, D)), (B, (C, D)), (C, (D,))):
            member = new(me)
            before = sight(member)
            for other in reversed(others):
                member.receive(here(other))
            self.assertEqual(led(member), to_each(propose((1, me), me, *others), *others))
            self.assertIs(member.frozen(), True)
            self.assertEqual(before[:2] + (True,) + before[3:], sight(member))
            self.assertEqual(member.tick()[0][1], here(me, None, 0, (1, me)))

    def test_a_member_that_is_not_the_first_one_of_its_reach(self):
        for make in (lambda: new(C), lambda: promised(C, (3, B), B, C, D), lambda: follower(C, (3, B), B, C, D)):
            for first in (A, B):
                member = make()
                for _ in range(10):
                    member.receive(here(first))
                    member.receive(here(D, None, 0, (9, D)))
                    self.assertEqual(led(member), [])
                self.assertEqual(sight(member), sight(make()))

    def test_the_members_that_are_missing(self):
        for states in itertools.chain(*(itertools.permutations((B, C, D), length) for length in range(3))):
            member = leading(A, B, C, D)
            for sender in states:
                self.assertEqual(member.receive(state(sender, VIEW)), [])
            missing = [other for other in (B, C, D) if other not in states]
            for _ in range(2):
                self.assertEqual(led(member), to_each(propose(VIEW, A, B, C, D), *missing))

    def test_a_need_because_of_other_members_in_reach(self):
        member = leader(A, B)
        member.receive(here(B, VIEW))
        member.receive(here(C))
        self.assertEqual(led(member), to_each(propose((2, A), *TRIO), B, C))
        member = leader(A, B, C)
        for _ in range(SILENCE):
            member.receive(here(B, VIEW))
            member.tick()
        member.receive(here(B, VIEW))
        self.assertEqual(but_heres(member.tick())[0], (1, propose((2, A), A, B)))

    def test_a_need_because_of_a_new_life(self):
        member = leader(A, B)
        member.receive(here((1, 2)))
        self.assertEqual(but_heres(member.tick())[0], (1, propose((2, A), A, (1, 2))))

    def test_a_need_because_the_member_is_frozen(self):
        member = leader(A, B)
        member.receive(here(B, VIEW))
        member.receive(propose((6, B), A, B))
        self.assertEqual(led(member), to_each(propose((7, A), A, B), B))
        member = promised(A, (6, B), A, B)
        self.assertEqual(led(member), to_each(propose((7, A), A, B), B))

    def test_a_need_because_a_member_has_strayed(self):
        member = leader(A, B)
        member.receive(here(B, VIEW, 0, VIEW))
        self.assertEqual(led(member), [])
        member.receive(here(B, VIEW, 0, (1, B)))
        member.receive(here(B, VIEW, 0, VIEW))
        self.assertIs(member.frozen(), False)
        self.assertEqual(led(member), to_each(propose((2, A), A, B), B))

    def test_what_has_strayed_is_forgotten_with_the_view(self):
        member = leader(A, B)
        member.receive(here(B, (0, B), 0, (4, B)))
        self.assertEqual(led(member)[0], (1, propose((5, A), A, B)))
        member.receive(state(B, (5, A)))
        member.receive(here(B, (5, A)))
        for _ in range(3):
            self.assertEqual(led(member), [])
        self.assertEqual(member.view(), ((5, A), (A, B)))


class GiveUpTest(unittest.TestCase):
    def assert_given_up(self, member, attempt, *senders):
        """Fail if the states of these members finish the attempt."""
        before = sight(member)
        for sender in senders:
            self.assertEqual(member.receive(state(sender, attempt)), [])
        self.assertEqual(sight(member), before)

    def test_other_members_in_reach(self):
        member = leading(A, B)
        member.receive(here(C))
        self.assertEqual(led(member), to_each(propose((2, A), *TRIO), B, C))
        self.assert_given_up(member, VIEW, B, C)
        self.assertEqual(led(member), to_each(propose((2, A), *TRIO), B, C))

    def test_a_member_that_is_silent(self):
        member = leading(A, B, C)
        for _ in range(SILENCE - 1):
            member.receive(here(B))
            self.assertEqual(led(member), to_each(propose(VIEW, *TRIO), B, C))
        member.receive(here(B))
        self.assertEqual(led(member), to_each(propose((2, A), A, B), B))
        self.assert_given_up(member, VIEW, B, C)

    def test_a_greater_number(self):
        member = leading(A, B)
        member.receive(here(B, (0, B), 0, (5, B)))
        self.assertEqual(led(member), to_each(propose((6, A), A, B), B))
        self.assert_given_up(member, VIEW, B)

    def test_an_equal_number(self):
        member = leading(A, B)
        member.receive(here(B, (0, B), 0, (1, B)))
        self.assertEqual(led(member), to_each(propose(VIEW, A, B), B))
        self.assertEqual(member.receive(state(B, VIEW))[0][1][0], "install")

    def test_a_greater_number_gives_the_attempt_up_only_at_the_tick(self):
        member = leading(A, B)
        member.receive(here(B, (0, B), 0, (5, B)))
        member.receive(state(B, VIEW))
        self.assertEqual(member.view(), (VIEW, (A, B)))

    def test_another_first_member(self):
        member = leading(B, C)
        member.receive(here(A))
        self.assertEqual(led(member), [])
        self.assert_given_up(member, (1, B), C)
        self.assertIs(member.frozen(), True)

    def test_a_promise(self):
        member = leading(B, C)
        self.assertEqual(member.receive(propose((2, A), *TRIO)), [(0, state(B, (2, A)))])
        self.assert_given_up(member, (1, B), C)
        member = leading(A, B)
        member.receive(propose((1, B), A, B))
        self.assert_given_up(member, VIEW, B)
        self.assertEqual(led(member), to_each(propose((2, A), A, B), B))

    def test_a_proposal_that_is_not_promised(self):
        member = leading(B, C)
        member.receive(propose((1, A), *TRIO))
        self.assertEqual(member.receive(state(C, (1, B)))[0][1][0], "install")

    def test_a_higher_letter(self):
        member = leading(A, B, C)
        self.assertEqual(member.receive(("higher", B, VIEW, (1, B))), [])
        self.assert_given_up(member, VIEW, B, C)
        self.assertEqual(led(member), to_each(propose((2, A), *TRIO), B, C))

    def test_a_higher_letter_for_another_attempt(self):
        for attempt in ((0, A), (1, B), (1, (0, 2)), (1, C)):
            member = leading(A, B)
            self.assertEqual(member.receive(("higher", B, attempt, (1, D))), [])
            self.assertEqual(led(member), to_each(propose(VIEW, A, B), B))

    def test_a_higher_letter_of_a_member_that_does_not_take_part(self):
        member = leading(A, B)
        member.receive(("higher", D, VIEW, (1, B)))
        self.assert_given_up(member, VIEW, B)

    def test_a_higher_letter_for_a_member_that_leads_nothing(self):
        member, other = leader(A, B), leader(A, B)
        self.assertEqual(member.receive(("higher", B, VIEW, (1, B))), [])
        other.receive(here(B))
        self.assertEqual(future(member), future(other))


class StateTest(unittest.TestCase):
    def test_the_last_state_finishes_the_attempt(self):
        finals = empty_finals((A, B, C, D))
        for senders in itertools.permutations((B, C, D)):
            member = leading(A, B, C, D)
            before = member.events()
            for sender in senders[:2]:
                self.assertEqual(member.receive(state(sender, VIEW)), [])
                self.assertEqual(member.receive(state(sender, VIEW)), [])
                self.assertIs(member.frozen(), True)
            letters = member.receive(state(senders[2], VIEW))
            self.assertEqual(letters, to_each(install(VIEW, (A, B, C, D), *finals), B, C, D))
            self.assertEqual((member.view(), member.frozen()), ((VIEW, (A, B, C, D)), False))
            self.assertEqual(member.events(), before + [("view", VIEW, (A, B, C, D))])
            self.assertEqual(member.receive(state(senders[2], VIEW)), [])

    def test_the_attempt_is_not_led_any_more(self):
        member = leading(A, B, C)
        for other in (B, C):
            member.receive(state(other, VIEW))
        for other in (B, C):
            self.assertEqual(member.receive(state(other, VIEW)), [])
            member.receive(here(other, VIEW))
        self.assertEqual(led(member), [])

    def test_states_that_do_not_count(self):
        for letter in (state(B, (0, A)), state(B, (1, B)), state(D, VIEW), state((1, 2), VIEW), state(C, VIEW)):
            member = leading(A, B, C)
            self.assertEqual(member.receive(letter), [])
            self.assertIs(member.frozen(), True)
            if letter[1] != C:
                self.assertEqual(member.receive(state(C, VIEW)), [])
            self.assertEqual(member.view(), ((0, A), (A,)))

    def test_states_for_members_that_lead_nothing(self):
        for make in (lambda: new(A), lambda: leader(A, B), lambda: promised(B, VIEW, A, B),
                     lambda: follower(B, VIEW, *TRIO)):
            member, other = make(), make()
            self.assertEqual(member.receive(state(C, (1, member.member()))), [])
            other.receive(here(C, (1, member.member())))
            self.assertEqual(future(member), future(other))

    def test_the_first_state_of_a_member_counts(self):
        member = leading(A, B, C)
        member.receive(state(B, VIEW, (0, B), ((B, 1, "a"),)))
        member.receive(state(B, VIEW, (0, B), ((B, 1, "a"), (B, 2, "b"))))
        letters = member.receive(state(C, VIEW))
        finals = (((0, A), ()), ((0, B), ((B, 1, "a"),)), ((0, C), ()))
        self.assertEqual(letters, to_each(install(VIEW, TRIO, *finals), B, C))

    def test_the_own_state_is_that_of_the_beginning(self):
        member = new(A)
        member.cast("a")
        member.receive(here(B))
        member.tick()
        member.cast("waits")
        member.receive(("cast", B, (0, A), 1, "b"))
        letters = member.receive(state(B, VIEW, (0, B), (), ((1, "b"),)))
        finals = (((0, A), ((A, 1, "a"),)), ((0, B), ((B, 1, "b"),)))
        self.assertEqual(letters[0], (1, install(VIEW, (A, B), *finals)))

    def test_what_is_left_to_deliver_and_what_waits(self):
        member = self.frozen_with_waiting()
        before = member.events()
        log = ((B, 1, "b"), (C, 1, "c"))
        member.receive(state(B, (2, A), VIEW, log[:1], ((2, "d"),)))
        letters = member.receive(state(C, (2, A), VIEW, log, ()))
        final = log + ((B, 2, "d"),)
        enter = install((2, A), TRIO, (VIEW, final))
        orders = [("order", A, (2, A), at, (A, at, text)) for at, text in ((1, "x"), (2, "y"))]
        self.assertEqual(letters, to_each(enter, B, C) + to_each(orders[0], B, C) + to_each(orders[1], B, C))
        self.assertEqual(member.events(), before + [
            ("deliver", VIEW, (C, 1, "c")), ("deliver", VIEW, (B, 2, "d")), ("view", (2, A), TRIO),
            ("cast", (2, A), 1, "x"), ("deliver", (2, A), (A, 1, "x")),
            ("cast", (2, A), 2, "y"), ("deliver", (2, A), (A, 2, "y"))])
        self.assertEqual((member.waiting(), member.frozen()), ((), False))
        self.assertEqual(member.log(), ((A, 1, "x"), (A, 2, "y")))

    def frozen_with_waiting(self):
        """Return a leader which has delivered a message of B, and leads an attempt; x and y wait."""
        member = leader(A, B, C)
        member.receive(("cast", B, VIEW, 1, "b"))
        member.receive(here(B, VIEW, 0, (1, B)))
        member.tick()
        member.cast("x")
        member.cast("y")
        return member

    def test_states_that_do_not_fit_the_log_of_the_leader(self):
        member = self.frozen_with_waiting()
        before = sight(member)
        member.receive(state(B, (2, A), VIEW, ((C, 1, "c"), (B, 1, "b")), ()))
        letters = member.receive(state(C, (2, A), VIEW))
        self.assertEqual([(receiver, letter[:3]) for receiver, letter in letters],
                         [(1, ("install", A, (2, A))), (2, ("install", A, (2, A)))])
        self.assertEqual(sight(member), before)
        member.receive(here(B, VIEW))
        member.receive(here(C, VIEW))
        self.assertEqual(led(member), to_each(propose((3, A), *TRIO), B, C))

    def test_members_of_other_views(self):
        member = leading(A, B, C)
        log = ((D, 1, "d"), (B, 1, "b"))
        member.receive(state(B, VIEW, (0, D), log, ((2, "e"),)))
        letters = member.receive(state(C, VIEW, (0, D), log[:1], ((1, "c"), (2, "f"))))
        final = log + ((B, 2, "e"), (C, 1, "c"), (C, 2, "f"))
        self.assertEqual(letters, to_each(install(VIEW, TRIO, ((0, A), ()), ((0, D), final)), B, C))
        self.assertEqual(member.events()[1:], [("view", VIEW, TRIO)])


if __name__ == "__main__":
    unittest.main()
