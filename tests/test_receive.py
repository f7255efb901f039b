"""Points 607, 609, 611 and 612: the letters that a member takes."""

import itertools
import unittest

from mustercall.watch import SILENCE
from odd import Stubborn, not_plain
from scenes import (A, B, C, D, but_heres, empty_finals, follower, future, here, install, leader, leading, new,
                    promised, propose, sight, state, to_each)

TRIO = (A, B, C)
VIEW = (3, A)
NEXT = (5, A)
MAKES = {
    "new": lambda: new(B),
    "leading": lambda: leading(B, C),
    "leader": lambda: leader(B, C),
    "promised": lambda: promised(B, VIEW, *TRIO),
    "follower": lambda: follower(B, VIEW, *TRIO),
    "moving": lambda: moving(),
}


def moving():
    """Return B, in the view with the id VIEW, frozen for the attempt NEXT; "x" waits."""
    member = follower(B, VIEW, *TRIO)
    member.receive(("order", A, VIEW, 1, (C, 1, "c")))
    member.cast("b")
    member.receive(propose(NEXT, *TRIO))
    member.cast("x")
    return member


def heard(sender, number):
    """Return a letter that does nothing but tell that its sender was heard, and this number."""
    return ("higher", sender, (0, D), (number, D))


class Case(unittest.TestCase):
    def assert_no_effect(self, make, letter, same_as=None):
        """Fail if the letter changes anything; what it tells of its sender may be told by another letter."""
        member, other = make(), make()
        self.assertEqual(member.receive(letter), [])
        if same_as is not None:
            other.receive(same_as)
        self.assertEqual(future(member), future(other))

    def answer(self, member, letter):
        """Return the one letter that is answered to the sender of the letter."""
        pairs = member.receive(letter)
        self.assertEqual([receiver for receiver, _ in pairs], [letter[1][0]])
        return pairs[0][1]


class RefusedTest(Case):
    """Point 607: letters that are not taken."""

    def test_values_that_are_no_letters(self):
        values = [value for _, value in not_plain()]
        values += [0, "here", (), ("here",), ("here", A), (Stubborn(), A, VIEW), Stubborn(), ("here", A, VIEW, 0)]
        values += [here((4, 1)), here((12, 1)), here((0, 0)), here(A, (3, (4, 1))), here(A, VIEW, -1),
                   here(A, VIEW, 0, (2, A)), here(A, VIEW) + (0,), list(here(A)),
                   ("cast", A, VIEW, 0, "a"), ("cast", A, VIEW, 1, "a" * 31), ("order", A, VIEW, 1, (A, 0, "a")),
                   propose(VIEW), propose(VIEW, C, B), propose(VIEW, B, (1, 2)),
                   state(A, (1, B), None, ((A, 2, "a"),)), state(A, (1, B), None, (), ((2, "a"),)),
                   install(VIEW, TRIO, (NEXT, ()), (VIEW, ())), ("higher", A, VIEW, 7)]
        for (name, make), (at, value) in itertools.product(MAKES.items(), enumerate(values)):
            with self.subTest(name=name, at=at):
                self.assert_no_effect(make, value)

    def test_letters_of_the_own_process(self):
        for me in (B, (1, 2), (1, 7)):
            letters = [here(me, (9, me), 0, (9, me)), ("cast", me, VIEW, 1, "a"), ("order", me, VIEW, 1, (me, 1, "a")),
                       propose((9, me), *TRIO), state(me, (1, B)), state(me, (1, me)),
                       install((9, me), TRIO, *empty_finals(TRIO)), ("higher", me, (1, B), (9, A))]
            for (name, make), letter in itertools.product(MAKES.items(), letters):
                with self.subTest(name=name, letter=letter):
                    self.assert_no_effect(make, letter)

    def test_letters_of_a_lesser_life(self):
        old, young = (0, 1), (0, 2)
        letters = [here(old), here(old, (9, old)), propose((9, old), old, B, C), ("cast", old, VIEW, 1, "a"),
                   ("order", old, VIEW, 1, (old, 1, "a")), ("order", old, VIEW, 2, (old, 1, "a")),
                   state(old, (1, B)), install(VIEW, TRIO, *empty_finals(TRIO)),
                   install((2, old), TRIO, *empty_finals(TRIO)), ("higher", old, (1, B), (9, A))]
        for (name, make), letter in itertools.product(MAKES.items(), letters):
            with self.subTest(name=name, letter=letter):
                def make_older():
                    member = make()
                    member.receive(here(young))
                    return member
                self.assert_no_effect(make_older, letter)

    def test_a_lesser_life_does_not_hold_up_a_silent_one(self):
        member = new(B)
        member.receive(here((2, 5)))
        for _ in range(SILENCE):
            member.tick()
            member.receive(here((2, 4)))
        member.tick()
        self.assertEqual(member.view()[1], (B,))

    def test_a_letter_of_an_equal_or_a_greater_life_is_taken(self):
        for life in (5, 6):
            member = new(B)
            member.receive(here((2, 5)))
            member.receive(here((2, life), (9, C)))
            self.assertEqual(but_heres(member.tick()), [(2, propose((10, B), B, (2, life)))])


class HeardTest(Case):
    """Point 607: each letter that is taken tells that its sender was heard."""

    def test_each_kind(self):
        letters = [here(C), ("cast", C, (0, B), 1, "a"), ("order", C, (0, B), 1, (C, 1, "a")), propose((0, A), A),
                   ("propose", C, (0, A), (B,)), state(C, (0, B)), ("install", C, (0, A), (B,), ()),
                   ("higher", C, (0, B), (0, C))]
        for letter in letters:
            with self.subTest(letter=letter):
                member = new(B)
                member.receive(letter)
                sender = letter[1]
                letters = but_heres(member.tick())
                self.assertEqual(letters, [] if sender == A else [(2, propose((1, B), B, C))])
                for _ in range(SILENCE - 1):
                    member.tick()
                member.receive(letter)
                for _ in range(SILENCE):
                    member.tick()
                self.assertEqual(member.view(), ((0, B), (B,)))
                member.tick()
                self.assertEqual(member.view()[1], (B,))


class ProposeTest(Case):
    def test_a_sender_that_is_not_the_founder(self):
        for attempt, sender in itertools.product(((9, A), (9, (0, 2)), (9, B), (9, D), VIEW), (A, C, D)):
            if attempt[1] == sender:
                continue
            for name, make in MAKES.items():
                with self.subTest(name=name, attempt=attempt, sender=sender):
                    letter = ("propose", sender, attempt, (A, B, C, D))
                    self.assert_no_effect(make, letter, heard(sender, attempt[0]))

    def test_a_member_that_does_not_take_part(self):
        for members in ((A,), (A, C), (A, (1, 2), C), (A, C, D)):
            for attempt in ((9, A), (1, A), (0, A)):
                for name, make in MAKES.items():
                    with self.subTest(name=name, members=members, attempt=attempt):
                        self.assert_no_effect(make, propose(attempt, *members), heard(A, attempt[0]))

    def test_a_greater_id_is_promised(self):
        cases = [(new(B), (1, A)), (new(B), (7, D)), (leading(B, C), (2, A)), (leading(B, C), (1, C)),
                 (leader(B, C), (2, A)), (promised(B, VIEW, *TRIO), (3, C)), (promised(B, VIEW, *TRIO), (4, A)),
                 (follower(B, VIEW, *TRIO), (4, A)), (moving(), (6, A)), (moving(), (5, (0, 2))), (moving(), (5, D))]
        for member, attempt in cases:
            with self.subTest(attempt=attempt):
                before = sight(member)
                members = tuple(sorted((B, attempt[1])))
                answer = self.answer(member, propose(attempt, *members))
                self.assertEqual(answer[:4], ("state", B, attempt, before[1][0]))
                self.assertEqual(sight(member), before[:2] + (True,) + before[3:])
                self.assertEqual(member.tick()[0][1][4], attempt)

    def test_the_state_of_a_new_member(self):
        self.assertEqual(self.answer(new(B), propose((1, A), A, B)), ("state", B, (1, A), (0, B), (), ()))
        member = new(B)
        member.cast("a")
        expected = ("state", B, (1, A), (0, B), ((B, 1, "a"),), ())
        self.assertEqual(self.answer(member, propose((1, A), A, B)), expected)

    def test_the_state_of_a_founder(self):
        member = leader(B, C)
        member.cast("a")
        member.receive(("cast", C, (1, B), 1, "c"))
        expected = ("state", B, (4, A), (1, B), ((B, 1, "a"), (C, 1, "c")), ())
        self.assertEqual(self.answer(member, propose((4, A), *TRIO)), expected)

    def test_the_state_of_another_member(self):
        member = follower(B, VIEW, *TRIO)
        for payload in "abc":
            member.cast(payload)
        member.receive(("order", A, VIEW, 1, (B, 1, "a")))
        member.receive(("order", A, VIEW, 2, (C, 1, "z")))
        member.receive(("order", A, VIEW, 4, (B, 2, "b")))
        expected = ("state", B, NEXT, VIEW, ((B, 1, "a"), (C, 1, "z")), ((2, "b"), (3, "c")))
        self.assertEqual(self.answer(member, propose(NEXT, *TRIO)), expected)
        member.cast("waits")
        self.assertEqual(self.answer(member, propose(NEXT, *TRIO)), expected)
        self.assertEqual(self.answer(member, propose((6, D), *TRIO, D)), expected[:2] + ((6, D),) + expected[3:])

    def test_the_promised_id_again(self):
        for make, attempt in ((lambda: promised(B, VIEW, *TRIO), VIEW), (moving, NEXT)):
            member, other = make(), make()
            answers = [self.answer(member, propose(attempt, *TRIO)) for _ in range(3)]
            self.assertEqual(answers, [answers[0]] * 3)
            self.assertEqual(answers[0][:3], ("state", B, attempt))
            other.receive(here(A))
            self.assertEqual(future(member), future(other))

    def test_a_lesser_id(self):
        cases = [(lambda: promised(B, VIEW, *TRIO), (2, A), VIEW), (lambda: promised(B, VIEW, *TRIO), (2, D), VIEW),
                 (lambda: promised(B, (3, C), *TRIO), VIEW, (3, C)), (lambda: follower(B, VIEW, *TRIO), (2, D), VIEW),
                 (lambda: follower(B, (3, (0, 2)), (0, 2), B), (3, (0, 1)), None), (moving, (4, A), NEXT),
                 (moving, (2, A), NEXT), (moving, (3, (0, 2)), NEXT), (lambda: new(B), (0, A), (0, B)),
                 (lambda: leading(B, C), (1, A), (1, B)), (lambda: leader(B, C), (1, A), (1, B))]
        for make, attempt, greatest in cases:
            with self.subTest(attempt=attempt, greatest=greatest):
                letter = propose(attempt, *sorted((attempt[1], B)))
                if greatest is None:
                    # The sender is a lesser life of the founder of the view.
                    self.assert_no_effect(make, letter)
                    continue
                member, other = make(), make()
                self.assertEqual(self.answer(member, letter), ("higher", B, attempt, greatest))
                other.receive(here(attempt[1]))
                self.assertEqual(future(member), future(other))

    def test_a_greater_id_with_the_number_of_the_view(self):
        for attempt in ((3, C), (3, D)):
            member, other = follower(B, VIEW, *TRIO), follower(B, VIEW, *TRIO)
            letter = propose(attempt, *sorted((attempt[1], B)))
            self.assertEqual(self.answer(member, letter), ("higher", B, attempt, VIEW))
            other.receive(here(attempt[1]))
            self.assertEqual(future(member), future(other))
        self.assertEqual(self.answer(new(B), propose((0, C), B, C)), ("higher", B, (0, C), (0, B)))

    def test_the_id_of_the_view(self):
        for make in (lambda: follower(B, VIEW, *TRIO), moving):
            self.assert_no_effect(make, propose(VIEW, *TRIO), here(A))


class InstallTest(Case):
    def test_a_sender_that_is_not_the_founder(self):
        for sender, attempt in ((C, NEXT), (A, (5, (0, 2))), (A, (5, C)), (A, (4, C)), (D, VIEW)):
            letter = ("install", sender, attempt, TRIO, ((VIEW, ((C, 1, "c"),)),))
            for name, make in MAKES.items():
                with self.subTest(name=name, sender=sender, attempt=attempt):
                    self.assert_no_effect(make, letter, heard(sender, max(attempt[0], 3)))

    def test_a_member_that_does_not_take_part(self):
        for members in ((A,), (A, C), (A, (1, 2), C)):
            for attempt in (NEXT, VIEW, (4, A), (2, A)):
                letter = install(attempt, members, (VIEW, ((C, 1, "c"),)))
                for name, make in MAKES.items():
                    with self.subTest(name=name, members=members, attempt=attempt):
                        self.assert_no_effect(make, letter, heard(A, max(attempt[0], 3)))

    def test_the_promised_view_is_entered(self):
        member = promised(B, VIEW, *TRIO)
        before = member.events()
        self.assertEqual(member.receive(install(VIEW, TRIO, *empty_finals(TRIO))), [])
        self.assertEqual((member.view(), member.frozen(), member.log()), ((VIEW, TRIO), False, ()))
        self.assertEqual(member.events(), before + [("view", VIEW, TRIO)])
        self.assertEqual(member.tick()[0][1], here(B, VIEW))

    def test_what_is_left_is_delivered_and_what_waits_is_cast(self):
        member = moving()
        member.cast("y")
        before = member.events()
        final = ((C, 1, "c"), (A, 1, "a"), (B, 1, "b"), (C, 2, "d"))
        letters = member.receive(install(NEXT, TRIO, ((0, D), ((D, 1, "d"),)), (VIEW, final), ((4, D), ())))
        self.assertEqual(letters, [(0, ("cast", B, NEXT, 1, "x")), (0, ("cast", B, NEXT, 2, "y"))])
        self.assertEqual(member.events(), before + [("deliver", VIEW, message) for message in final[1:]] + [
            ("view", NEXT, TRIO), ("cast", NEXT, 1, "x"), ("cast", NEXT, 2, "y")])
        self.assertEqual((member.view(), member.frozen(), member.log(), member.waiting()),
                         ((NEXT, TRIO), False, (), ()))
        self.assertEqual(member.receive(("order", A, NEXT, 1, (B, 1, "x"))), [])
        self.assertEqual(member.log(), ((B, 1, "x"),))

    def test_nothing_is_left(self):
        member = moving()
        before = member.events()
        member.receive(install(NEXT, (A, B), (VIEW, ((C, 1, "c"),))))
        self.assertEqual(member.events()[len(before):], [("view", NEXT, (A, B)), ("cast", NEXT, 1, "x")])

    def test_the_first_member_may_be_another_one_than_the_founder(self):
        member = new(B)
        member.cast("a")
        member.receive(propose((2, C), B, C))
        member.cast("x")
        final = ((B, 1, "a"),)
        letters = member.receive(install((2, C), (B, C), ((0, B), final)))
        self.assertEqual(letters, [(2, ("order", B, (2, C), 1, (B, 1, "x")))])
        self.assertEqual(but_heres(member.tick()), letters)

    def test_finals_that_do_not_fit(self):
        wrong = [(), (((0, B), ()),), (((3, (0, 2)), ((C, 1, "c"),)),), ((VIEW, ()),), ((VIEW, ((C, 1, "x"),)),),
                 ((VIEW, ((B, 1, "c"),)),), ((VIEW, ((A, 1, "a"), (C, 1, "c"))),), ((NEXT, ((C, 1, "c"),)),),
                 (((0, B), ((C, 1, "c"),)), ((3, B), ((C, 1, "c"),)))]
        for finals in wrong:
            with self.subTest(finals=finals):
                self.assert_no_effect(moving, install(NEXT, TRIO, *finals), here(A))
        member = moving()
        member.receive(install(NEXT, TRIO))
        member.receive(install(NEXT, TRIO, (VIEW, ((C, 1, "c"), (B, 1, "b")))))
        self.assertEqual(member.view(), (NEXT, TRIO))

    def test_the_numbers_in_finals_that_do_not_fit_are_seen(self):
        member = promised(A, (2, B), A, B)
        member.receive(install((2, B), (A, B), ((9, C), ())))
        self.assertEqual(but_heres(member.tick()), [(1, propose((10, A), A, B))])

    def test_the_view_is_entered_only_once(self):
        letter = install(VIEW, TRIO, *empty_finals(TRIO))
        self.assert_no_effect(lambda: follower(B, VIEW, *TRIO), letter, here(A))
        self.assert_no_effect(lambda: follower(B, VIEW, *TRIO), install(VIEW, TRIO, (VIEW, ())), here(A))

    def test_the_view_of_a_member_that_has_promised_another_one(self):
        self.assert_no_effect(moving, install(VIEW, TRIO, *empty_finals(TRIO)), here(A))

    def test_a_lesser_id(self):
        cases = [(lambda: promised(B, VIEW, *TRIO), (2, A), VIEW), (lambda: promised(B, (3, C), *TRIO), VIEW, (3, C)),
                 (lambda: follower(B, VIEW, *TRIO), (2, D), VIEW), (moving, (4, A), NEXT), (moving, (3, (0, 2)), NEXT),
                 (lambda: new(B), (0, A), (0, B)), (lambda: leading(B, C), (1, A), (1, B))]
        for make, attempt, greatest in cases:
            with self.subTest(attempt=attempt, greatest=greatest):
                members = tuple(sorted((attempt[1], B)))
                letter = install(attempt, members, ((0, B), ()), (VIEW, ((C, 1, "c"),)))
                member, other = make(), make()
                self.assertEqual(self.answer(member, letter), ("higher", B, attempt, greatest))
                other.receive(heard(attempt[1], 3))
                self.assertEqual(future(member), future(other))

    def test_a_greater_id(self):
        for name, make in MAKES.items():
            for attempt in ((6, A), (5, (0, 2)), (9, D)):
                with self.subTest(name=name, attempt=attempt):
                    letter = install(attempt, tuple(sorted((attempt[1], B))), ((0, B), ()), (VIEW, ((C, 1, "c"),)))
                    self.assert_no_effect(make, letter, heard(attempt[1], attempt[0]))


class HereTest(Case):
    def first_again(self, member, process):
        """Return the places of the order letters that are sent again to the process."""
        return [letter[3] for receiver, letter in member.tick() if letter[0] == "order" and receiver == process]

    def founder(self):
        member = leader(A, B, C)
        for payload in "abc":
            member.cast(payload)
        return member

    def test_the_count_is_told(self):
        member = self.founder()
        self.assertEqual(member.receive(here(B, (1, A), 1)), [])
        self.assertEqual((self.first_again(member, 1), self.first_again(member, 2)), ([2, 3], [1, 2, 3]))
        member.receive(here(B, (1, A), 3))
        member.receive(here(B, (1, A), 2))
        self.assertEqual(self.first_again(member, 1), [])

    def test_the_count_in_another_view_is_not_told(self):
        for view_id in ((0, B), (0, A), (1, (0, 2)), (1, B), (7, A)):
            member = self.founder()
            member.receive(here(B, view_id, 3))
            letters = but_heres(member.tick())
            if letters[0][1][0] != "propose":
                self.assertEqual([letter[3] for receiver, letter in letters if receiver == 1][:3], [1, 2, 3])
            self.assertIn((1, install((1, A), TRIO, *empty_finals(TRIO))), letters)

    def test_a_stranger_in_the_view(self):
        member = self.founder()
        for sender in (D, (1, 2)):
            self.assertEqual(member.receive(here(sender, (1, A), 3)), [])
        self.assertEqual(member.log(), ((A, 1, "a"), (A, 2, "b"), (A, 3, "c")))
        self.assertIn((1, install((1, A), TRIO, *empty_finals(TRIO))), member.tick())

    def test_a_strayed_member(self):
        for letter, has_strayed in (
                (here(B, (1, A), 0, (1, B)), True), (here(B, (1, A), 0, (2, A)), True),
                (here(B, (0, B), 0, (2, A)), True), (here(B, (2, B)), True), (here(C, (1, D)), True),
                (here(B, (1, A)), False), (here(B, (0, B), 0, (1, A)), False), (here(B, (0, B)), False)):
            with self.subTest(letter=letter):
                member = leader(A, B, C)
                member.receive(letter)
                self.assertIs(member.frozen(), False)
                member.tick()
                self.assertIs(member.frozen(), has_strayed)

    def test_a_strayed_member_of_a_view_that_is_not_led(self):
        member = follower(B, VIEW, *TRIO)
        member.receive(here(C, (9, C)))
        for _ in range(3):
            self.assertEqual(but_heres(member.tick()), [])
            member.receive(here(A, VIEW))
        self.assertIs(member.frozen(), False)

    def test_a_stranger_that_has_promised_more(self):
        member = follower(B, (1, C), B, C)
        member.receive(here(C, (1, C)))
        member.receive(here(A, (9, A)))
        for _ in range(SILENCE):
            self.assertEqual(but_heres(member.tick()), [])
            member.receive(here(C, (1, C)))
        # A was no member of the view and is silent now, so nothing is left of it but its number.
        for _ in range(3):
            self.assertEqual(but_heres(member.tick()), [])
            member.receive(here(C, (1, C)))
        member.receive(here(C, (1, C), 0, (2, C)))
        self.assertEqual(but_heres(member.tick()), [(2, propose((10, B), B, C))])

    def test_a_frozen_member_still_takes_here_letters(self):
        member = self.founder()
        member.receive(propose((4, B), A, B))
        member.receive(here(B, (1, A), 3, (4, B)))
        letters = but_heres(member.tick())
        enter = install((1, A), TRIO, *empty_finals(TRIO))
        self.assertEqual(letters, to_each(propose((5, A), *TRIO), B, C) + to_each(enter, C))


class MessageTest(Case):
    def test_cast_letters_for_the_founder(self):
        member = leader(A, B, C)
        before = member.events()
        orders = []
        for index, sender in ((1, B), (1, C), (2, B)):
            message = (sender, index, "b")
            orders.append(("order", A, (1, A), len(orders) + 1, message))
            self.assertEqual(member.receive(("cast", sender, (1, A), index, "b")), to_each(orders[-1], B, C))
            before += [("deliver", (1, A), message)]
            self.assertEqual(member.events(), before)
        self.assertEqual(len(member.log()), 3)

    def test_order_letters_for_another_member(self):
        member = follower(B, VIEW, *TRIO)
        before = member.events()
        self.assertEqual(member.receive(("order", A, VIEW, 2, (C, 1, "c"))), [])
        self.assertEqual(member.events(), before)
        self.assertEqual(member.receive(("order", A, VIEW, 1, (A, 1, "a"))), [])
        self.assertEqual(member.events(), before + [("deliver", VIEW, (A, 1, "a")), ("deliver", VIEW, (C, 1, "c"))])
        self.assertEqual(member.log(), ((A, 1, "a"), (C, 1, "c")))

    def test_letters_that_do_not_fit(self):
        founder, other = lambda: leader(A, B, C), lambda: follower(B, VIEW, *TRIO)
        for letter in (("cast", B, (1, A), 2, "b"), ("cast", B, (1, B), 1, "b"), ("cast", B, (0, A), 1, "b"),
                       ("order", B, (1, A), 1, (B, 1, "b"))):
            self.assert_no_effect(founder, letter, here(B))
        for letter in (("cast", D, (1, A), 1, "d"), ("cast", (1, 2), (1, A), 1, "b")):
            self.assert_no_effect(founder, letter, here(letter[1]))
        for letter in (("order", C, VIEW, 1, (C, 1, "c")), ("order", A, (3, B), 1, (C, 1, "c")),
                       ("order", (0, 2), VIEW, 1, (C, 1, "c")), ("cast", C, VIEW, 1, "c"), ("cast", D, VIEW, 1, "c")):
            self.assert_no_effect(other, letter, here(letter[1]))

    def test_a_frozen_member_takes_none(self):
        def frozen_founder():
            member = leader(A, B, C)
            member.receive(propose((4, B), A, B))
            return member
        for letter in (("cast", B, (1, A), 1, "b"), ("cast", C, (1, A), 1, "c")):
            self.assert_no_effect(frozen_founder, letter, here(letter[1]))
        for letter in (("order", A, VIEW, 2, (A, 1, "a")), ("order", A, VIEW, 2, (B, 1, "b")),
                       ("order", A, VIEW, 3, (A, 1, "a"))):
            self.assert_no_effect(moving, letter, here(A))

    def test_letters_that_came_while_the_member_was_frozen_are_not_taken_later(self):
        member = moving()
        member.receive(("order", A, NEXT, 1, (A, 1, "a")))
        member.receive(("order", A, NEXT, 2, (A, 2, "a")))
        member.receive(install(NEXT, TRIO, (VIEW, ((C, 1, "c"),))))
        self.assertEqual(member.log(), ())
        member.receive(("order", A, NEXT, 1, (A, 1, "a")))
        self.assertEqual(member.log(), ((A, 1, "a"),))


if __name__ == "__main__":
    unittest.main()
