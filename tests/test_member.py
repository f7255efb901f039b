"""Points 600 to 605: creating a member, casting, ticks and events."""

import itertools
import unittest

from mustercall.cells import Cells
from mustercall.errors import BadMember, BadPayload, DiskCrashed
from mustercall.letters import is_letter
from mustercall.member import Member
from mustercall.order import WINDOW
from mustercall.watch import SILENCE
from odd import Stubborn, not_plain
from scenes import (A, B, C, COUNT, D, but_heres, empty_finals, follower, future, here, heres, install, leader, leading,
                    new, promised, propose, sight, state, to_each)

TRIO = (A, B, C)
VIEW = (1, A)


class NewTest(unittest.TestCase):
    def assert_bad(self, process, count, cells):
        with self.assertRaises(BadMember) as caught:
            Member(process, count, cells)
        self.assertIs(type(caught.exception), BadMember)

    def test_a_new_member(self):
        for count in range(1, 13):
            for process in range(count):
                member = Member(process, count, Cells())
                me = (process, 1)
                self.assertEqual(member.member(), me)
                self.assertEqual(member.view(), ((0, me), (me,)))
                self.assertIs(member.frozen(), False)
                self.assertEqual((member.log(), member.waiting()), ((), ()))
                self.assertEqual(member.events(), [("view", (0, me), (me,))])

    def test_each_member_is_a_new_life(self):
        cells = Cells()
        for life in range(1, 6):
            self.assertEqual(Member(1, 3, cells).member(), (1, life))
        self.assertEqual((cells.read(0), cells.read(1)), ("5=5", "4=4"))

    def test_a_count_or_a_process_that_is_none(self):
        wrong = [(process, 3) for process in (-1, 3, 4, 12, 10 ** 30, True, False, "0", "", (), (0,))]
        wrong += [(0, count) for count in (0, -1, 13, 10 ** 30, True, "3", (), (3,))]
        wrong += [(0, value) for _, value in not_plain()] + [(value, 3) for _, value in not_plain()]
        wrong += [(1, 1), (12, 13), (0, Stubborn()), (Stubborn(), 3)]
        for at, (process, count) in enumerate(wrong):
            with self.subTest(at=at):
                cells = Cells()
                self.assert_bad(process, count, cells)
                self.assertEqual((cells.read(0), cells.read(1)), ("", ""))

    def test_a_bad_member_is_refused_before_the_disk_is_asked(self):
        cells = Cells()
        cells.arm(0, 1)
        self.assert_bad(3, 3, cells)
        with self.assertRaises(DiskCrashed):
            Member(0, 3, cells)
        self.assert_bad(0, 0, cells)

    def test_an_armed_disk(self):
        for keep in range(4):
            cells = Cells()
            cells.arm(1, keep)
            self.assertEqual(Member(2, 3, cells).member(), (2, 1))
            with self.assertRaises(DiskCrashed) as caught:
                Member(2, 3, cells)
            self.assertIs(type(caught.exception), DiskCrashed)
            with self.assertRaises(DiskCrashed):
                Member(2, 3, cells)
            cells.crash()
            life = 3 if keep == 3 else 2
            self.assertEqual(Member(2, 3, cells).member(), (2, life))

    def test_letters_after_a_tick_of_a_new_member(self):
        for process in range(4):
            me = (process, 1)
            others = [other for other in range(4) if other != process]
            self.assertEqual(Member(process, 4, Cells()).tick(), [(other, here(me)) for other in others])
        self.assertEqual(Member(0, 1, Cells()).tick(), [])

    def test_members_are_independent(self):
        one, other = new(A), new(A)
        one.receive(here(B))
        one.cast("a")
        one.tick()
        self.assertEqual(future(other), future(new(A)))


class CastTest(unittest.TestCase):
    def test_the_founder(self):
        member = leader(A, B, C)
        before = member.events()
        for index, payload in enumerate(("a", "", "b" * 30), start=1):
            message = (A, index, payload)
            order = ("order", A, VIEW, index, message)
            self.assertEqual(member.cast(payload), to_each(order, B, C))
            before += [("cast", VIEW, index, payload), ("deliver", VIEW, message)]
            self.assertEqual(member.events(), before)
            self.assertEqual(member.log()[-1], message)
        self.assertEqual((len(member.log()), member.waiting()), (3, ()))

    def test_another_member(self):
        member = follower(B, VIEW, *TRIO)
        before = member.events()
        for index, payload in enumerate(("a", "", "b" * 30), start=1):
            self.assertEqual(member.cast(payload), [(0, ("cast", B, VIEW, index, payload))])
            before += [("cast", VIEW, index, payload)]
            self.assertEqual((member.events(), member.log(), member.waiting()), (before, (), ()))

    def test_a_member_alone(self):
        member = new(C)
        self.assertEqual((member.cast("a"), member.cast("a")), ([], []))
        self.assertEqual(member.log(), ((C, 1, "a"), (C, 2, "a")))
        self.assertEqual(member.events()[1:], [
            ("cast", (0, C), 1, "a"), ("deliver", (0, C), (C, 1, "a")),
            ("cast", (0, C), 2, "a"), ("deliver", (0, C), (C, 2, "a"))])

    def test_payloads_wait_while_the_member_is_frozen(self):
        for member in (promised(B, VIEW, A, B), leading(A, B)):
            before = member.events()
            for payloads in (("x",), ("x", ""), ("x", "", "x")):
                self.assertEqual(member.cast(payloads[-1]), [])
                self.assertEqual(member.waiting(), payloads)
            self.assertEqual((member.events(), member.log(), member.frozen()), (before, (), True))

    def test_values_that_are_no_payloads(self):
        wrong = [value for _, value in not_plain()]
        wrong += ["a" * 31, "\n", "a\x7f", "\x1f", "\u00e9", chr(37), 0, 5, (), ("a",), Stubborn()]
        for make in (lambda: new(A), lambda: leader(A, B), lambda: follower(B, VIEW, *TRIO),
                     lambda: promised(B, VIEW, A, B), lambda: leading(A, B)):
            member = make()
            for at, payload in enumerate(wrong):
                with self.subTest(at=at):
                    with self.assertRaises(BadPayload) as caught:
                        member.cast(payload)
                    self.assertIs(type(caught.exception), BadPayload)
            self.assertEqual(future(member), future(make()))

    def test_all_payloads_that_are_right(self):
        member, frozen = new(A), promised(B, VIEW, A, B)
        right = ["", "a" * 30] + [chr(code) for code in range(32, 127) if code != 37]
        for payload in right:
            member.cast(payload)
            frozen.cast(payload)
        self.assertEqual([message[2] for message in member.log()], right)
        self.assertEqual(frozen.waiting(), tuple(right))


class TickTest(unittest.TestCase):
    def test_here_letters(self):
        member = follower(B, (3, A), *TRIO)
        member.receive(("order", A, (3, A), 1, (C, 1, "a")))
        member.receive(("order", A, (3, A), 2, (A, 1, "b")))
        letter = here(B, (3, A), 2)
        self.assertEqual(heres(member.tick()), to_each(letter, A, C, D))
        member.receive(propose((5, A), *TRIO))
        letter = here(B, (3, A), 2, (5, A))
        self.assertEqual(heres(member.tick()), to_each(letter, A, C, D))
        self.assertEqual(heres(new((2, 9)).tick()), to_each(here((2, 9)), A, B, D))

    def test_the_watch_is_told_the_tick_first(self):
        member = leader(A, B)
        member.receive(here(B, VIEW))
        for _ in range(SILENCE):
            self.assertEqual(but_heres(member.tick()), [])
        member.tick()
        self.assertEqual(member.view(), ((2, A), (A,)))

    def test_the_here_letters_tell_what_was_before_leading(self):
        member = new(A)
        member.receive(here(B))
        letters = member.tick()
        self.assertEqual(heres(letters), to_each(here(A), B, C, D))
        self.assertIs(member.frozen(), True)
        self.assertEqual(heres(member.tick()), to_each(here(A, (0, A), 0, VIEW), B, C, D))

    def test_the_order_of_the_letters(self):
        member = leader(A, B, C)
        member.cast("a")
        member.receive(here(B, VIEW))
        order = ("order", A, VIEW, 1, (A, 1, "a"))
        enter = install(VIEW, TRIO, *empty_finals(TRIO))
        self.assertEqual(member.tick(), to_each(here(A, VIEW, 1), B, C, D) + to_each(order, B, C) + to_each(enter, C))
        member.receive(here(D))
        letters = to_each(here(A, VIEW, 1), B, C, D) + to_each(propose((2, A), A, B, C, D), B, C, D)
        self.assertEqual(member.tick(), letters + to_each(enter, C))

    def test_letters_are_sent_again_while_the_member_is_not_frozen(self):
        member = follower(B, VIEW, *TRIO)
        for at in range(WINDOW + 4):
            member.cast(str(at))
        again = [(0, ("cast", B, VIEW, at + 1, str(at))) for at in range(WINDOW)]
        for _ in range(3):
            member.receive(here(A, VIEW))
            self.assertEqual(but_heres(member.tick()), again)
        member.receive(propose((2, A), *TRIO))
        self.assertEqual(but_heres(member.tick()), [])

    def test_order_letters_are_sent_again_until_they_are_told(self):
        member = leader(A, B, C)
        member.receive(here(B, VIEW))
        member.receive(here(C, VIEW))
        member.cast("a")
        member.cast("b")
        first, second = (("order", A, VIEW, at, (A, at, text)) for at, text in ((1, "a"), (2, "b")))
        self.assertEqual(but_heres(member.tick()), [(1, first), (1, second), (2, first), (2, second)])
        member.receive(here(C, VIEW, 1))
        self.assertEqual(but_heres(member.tick()), [(1, first), (1, second), (2, second)])
        member.receive(here(B, VIEW, 2))
        self.assertEqual(but_heres(member.tick()), [(2, second)])
        member.receive(here(C, VIEW, 2))
        self.assertEqual(but_heres(member.tick()), [])

    def test_the_install_letter_is_sent_again_until_each_member_was_seen(self):
        enter = install(VIEW, TRIO, *empty_finals(TRIO))
        for first, second in ((B, C), (C, B)):
            member = leader(A, B, C)
            self.assertEqual(but_heres(member.tick()), to_each(enter, B, C))
            self.assertEqual(but_heres(member.tick()), to_each(enter, B, C))
            member.receive(here(first, VIEW))
            self.assertEqual(but_heres(member.tick()), to_each(enter, second))
            member.receive(here(second))
            self.assertEqual(but_heres(member.tick()), to_each(enter, second))
            member.receive(here(second, VIEW))
            self.assertEqual(but_heres(member.tick()), [])

    def test_the_install_letter_is_sent_again_while_the_member_is_frozen(self):
        member = leader(A, B, C)
        member.receive(here(C, VIEW, 0, (4, C)))
        enter = install(VIEW, TRIO, *empty_finals(TRIO))
        for _ in range(2):
            letters = to_each(propose((5, A), *TRIO), B, C) + to_each(enter, B)
            self.assertEqual(but_heres(member.tick()), letters)
            self.assertIs(member.frozen(), True)
        member.receive(here(B, VIEW))
        self.assertEqual(but_heres(member.tick()), to_each(propose((5, A), *TRIO), B, C))

    def test_the_install_letter_of_an_earlier_view_is_not_sent_again(self):
        member = leader(A, B, C)
        member.receive(here(D))
        member.tick()
        for other in (B, C):
            member.receive(state(other, (2, A)))
        member.receive(state(D, (2, A)))
        enter = install((2, A), (A, B, C, D), *empty_finals((B, C, D)), (VIEW, ()))
        self.assertEqual(but_heres(member.tick()), to_each(enter, B, C, D))

    def test_the_install_letter_of_another_leader_is_not_sent_again(self):
        member = follower(B, VIEW, *TRIO)
        member.receive(here(A, VIEW))
        self.assertEqual(but_heres(member.tick()), [])
        member = new(B)
        member.receive(here(C))
        member.tick()
        member.receive(propose((2, A), *TRIO))
        member.receive(install((2, A), TRIO, *empty_finals(TRIO)))
        member.receive(here(A, (2, A)))
        self.assertEqual(but_heres(member.tick()), [])

    def test_a_member_that_hears_nobody_goes_on_alone(self):
        member = promised(B, (4, A), A, B)
        for payload in ("x", "y"):
            member.cast(payload)
        before = member.events()
        for _ in range(SILENCE):
            self.assertEqual(but_heres(member.tick()), [])
        self.assertEqual((member.events(), member.frozen()), (before, True))
        letter = here(B, (0, B), 0, (4, A))
        self.assertEqual(member.tick(), to_each(letter, A, C, D))
        self.assertEqual((member.view(), member.frozen(), member.waiting()), (((5, B), (B,)), False, ()))
        self.assertEqual(member.events(), before + [
            ("view", (5, B), (B,)),
            ("cast", (5, B), 1, "x"), ("deliver", (5, B), (B, 1, "x")),
            ("cast", (5, B), 2, "y"), ("deliver", (5, B), (B, 2, "y"))])
        self.assertEqual(member.tick(), to_each(here(B, (5, B), 2), A, C, D))

    def test_own_casts_are_delivered_before_a_member_goes_on_alone(self):
        member = follower(B, VIEW, *TRIO)
        member.receive(("order", A, VIEW, 1, (C, 1, "c")))
        member.receive(("order", A, VIEW, 3, (C, 3, "e")))
        member.cast("x")
        before = member.events()
        for _ in range(SILENCE + 1):
            self.assertEqual(member.events(), before)
            member.tick()
        self.assertEqual(member.events(), before + [("deliver", VIEW, (B, 1, "x")), ("view", (2, B), (B,))])
        self.assertEqual(member.log(), ())


class ListsTest(unittest.TestCase):
    """Point 600: what is returned may be changed, and every letter is one of the member to another process."""

    def spoil(self, values):
        self.assertIs(type(values), list)
        values.append("spoiled")
        values.reverse()
        del values[1:]

    def run_script(self, spoil):
        """Return what members return at each step, copied before the list is spoiled."""
        found = []

        def note(values):
            found.append(list(values))
            spoil(values)
        member = new(A)
        for step in range(3):
            note(member.cast(str(step)))
            note(member.events())
            note(member.receive(here(B)))
        note(member.tick())
        note(member.receive(state(B, VIEW)))
        for step in range(4):
            note(member.cast(str(step)))
            note(member.receive(("cast", B, VIEW, step + 1, "b")))
            note(member.tick())
            note(member.events())
        note(member.receive(propose((7, B), A, B)))
        note(member.receive(install((6, B), (A, B))))
        note(member.receive(here(C)))
        note(member.cast("waits"))
        note(member.tick())
        note(member.events())
        return found, sight(member), member.tick()

    def test_lists_may_be_changed(self):
        self.assertEqual(self.run_script(self.spoil), self.run_script(lambda values: None))

    def test_what_was_returned_does_not_change_later(self):
        member = new(A)
        events, log, waiting = member.events(), member.log(), member.waiting()
        member.cast("a")
        self.assertEqual((events, log, waiting), ([("view", (0, A), (A,))], (), ()))
        self.assertEqual((type(member.log()), type(member.waiting()), type(member.view())), (tuple,) * 3)

    def test_each_letter_names_its_sender_and_goes_to_another_process(self):
        found, _, last = self.run_script(lambda values: None)
        pairs = [pair for pair in itertools.chain(last, *found) if isinstance(pair[0], int)]
        self.assertEqual({letter[0] for _, letter in pairs}, {"here", "propose", "install", "order", "state", "higher"})
        for receiver, letter in pairs:
            self.assertTrue(is_letter(COUNT, letter), letter)
            self.assertEqual(letter[1], A)
            self.assertIn(receiver, (1, 2, 3))

    def test_the_same_steps_lead_to_the_same_letters(self):
        self.assertEqual(self.run_script(lambda values: None), self.run_script(lambda values: None))


if __name__ == "__main__":
    unittest.main()
