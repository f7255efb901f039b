"""Points 400 to 409: the order of the messages of a view."""

import itertools
import random
import unittest

from mustercall.errors import BadView
from mustercall.letters import is_letter, is_log, is_pending
from mustercall.limits import MOST_NUMBER
from mustercall.order import WINDOW, Order

FOUNDER, SECOND, THIRD = (0, 2), (1, 1), (3, 9)
MEMBERS = (FOUNDER, SECOND, THIRD)
ID = (3, FOUNDER)
OTHER_ID = (4, FOUNDER)


def order_of(me):
    return Order(me, ID, MEMBERS)


def cast_letter(sender, index, payload, view_id=ID):
    return ("cast", sender, view_id, index, payload)


def order_letter(place, message, sender=FOUNDER, view_id=ID):
    return ("order", sender, view_id, place, message)


def both(place, message):
    """Return what the founder sends when it appends the message at the place."""
    return [(1, order_letter(place, message)), (3, order_letter(place, message))]


class Case(unittest.TestCase):
    def assert_no_effect(self, order, *letters):
        """Fail if one of the letters changes anything that can be seen."""
        for letter in letters:
            with self.subTest(letter=letter):
                before = order.log(), order.pending(), order.again()
                self.assertEqual(order.take(letter), ([], []))
                self.assertEqual((order.log(), order.pending(), order.again()), before)


class NewTest(Case):
    def test_the_window(self):
        self.assertEqual(WINDOW, 16)

    def test_a_new_order_is_empty(self):
        for me in MEMBERS:
            order = order_of(me)
            self.assertEqual((order.log(), order.pending(), order.again()), ((), (), []))

    def test_me_must_be_a_member(self):
        for me in ((2, 1), (0, 1), (0, 3), (1, 2), (3, 8)):
            with self.subTest(me=me):
                with self.assertRaises(BadView) as caught:
                    Order(me, ID, MEMBERS)
                self.assertIs(type(caught.exception), BadView)

    def test_the_example_of_the_document(self):
        order = Order((1, 1), (3, (0, 2)), ((0, 2), (1, 1)))
        self.assertEqual(order.cast("hello"), (1, [], [(0, ("cast", (1, 1), (3, (0, 2)), 1, "hello"))]))
        letter = ("order", (0, 2), (3, (0, 2)), 1, ((1, 1), 1, "hello"))
        self.assertEqual(order.take(letter), ([((1, 1), 1, "hello")], []))
        self.assertEqual(order.pending(), ())

    def test_a_view_of_one_member(self):
        order = Order(THIRD, (0, THIRD), (THIRD,))
        self.assertEqual(order.cast("a"), (1, [(THIRD, 1, "a")], []))
        self.assertEqual(order.cast("b"), (2, [(THIRD, 2, "b")], []))
        self.assertEqual(order.log(), ((THIRD, 1, "a"), (THIRD, 2, "b")))
        self.assertEqual((order.pending(), order.again()), ((), []))

    def test_the_founder_is_the_first_member_even_if_the_id_names_another_one(self):
        view_id = (3, SECOND)
        order = Order(FOUNDER, view_id, MEMBERS)
        self.assertEqual(order.cast("a")[1], [(FOUNDER, 1, "a")])
        other = Order(SECOND, view_id, MEMBERS)
        self.assertEqual(other.cast("a"), (1, [], [(0, ("cast", SECOND, view_id, 1, "a"))]))


class FounderTest(Case):
    def test_casting(self):
        order = order_of(FOUNDER)
        for index, payload in enumerate(("a", "", "b" * 30, "a"), start=1):
            message = (FOUNDER, index, payload)
            self.assertEqual(order.cast(payload), (index, [message], both(index, message)))
            self.assertEqual(order.log()[-1], message)
            self.assertEqual((len(order.log()), order.pending()), (index, ()))

    def test_cast_letters(self):
        order = order_of(FOUNDER)
        place = 0
        for sender, index in ((SECOND, 1), (SECOND, 2), (THIRD, 1), (SECOND, 3), (THIRD, 2)):
            place += 1
            message = (sender, index, str(place))
            self.assertEqual(order.take(cast_letter(sender, index, str(place))), ([message], both(place, message)))
            self.assertEqual(order.log()[-1], message)
        self.assertEqual(len(order.log()), 5)
        self.assertEqual(order.cast("me"), (1, [(FOUNDER, 1, "me")], both(6, (FOUNDER, 1, "me"))))
        self.assertEqual(order.pending(), ())

    def test_indexes_that_are_not_the_next_one(self):
        order = order_of(FOUNDER)
        self.assert_no_effect(order, *[cast_letter(SECOND, index, "x") for index in (2, 3, 17, MOST_NUMBER)])
        order.take(cast_letter(SECOND, 1, "a"))
        order.take(cast_letter(SECOND, 2, "b"))
        self.assert_no_effect(order, *[cast_letter(SECOND, index, "x") for index in (1, 2, 4, 5, MOST_NUMBER)])
        self.assert_no_effect(order, cast_letter(SECOND, 2, "b"), cast_letter(THIRD, 3, "x"))
        self.assertEqual(order.take(cast_letter(SECOND, 3, "c"))[0], [(SECOND, 3, "c")])

    def test_a_cast_that_came_too_early_is_not_kept(self):
        order = order_of(FOUNDER)
        self.assert_no_effect(order, cast_letter(SECOND, 2, "b"))
        self.assertEqual(order.take(cast_letter(SECOND, 1, "a"))[0], [(SECOND, 1, "a")])
        self.assertEqual(order.log(), ((SECOND, 1, "a"),))

    def test_other_views(self):
        order = order_of(FOUNDER)
        self.assert_no_effect(order, *[cast_letter(SECOND, 1, "x", view_id)
                                       for view_id in (OTHER_ID, (2, FOUNDER), (3, SECOND), (3, (0, 1)))])

    def test_strangers_and_the_member_itself(self):
        order = order_of(FOUNDER)
        self.assert_no_effect(order, *[cast_letter(sender, 1, "x") for sender in
                                       ((2, 1), (1, 2), (3, 8), (0, 1), (0, 3), FOUNDER)])
        order.cast("a")
        self.assert_no_effect(order, cast_letter(FOUNDER, 2, "x"), cast_letter(FOUNDER, 1, "a"))
        self.assertEqual(order.cast("b")[0], 2)

    def test_order_letters_have_no_effect(self):
        order = order_of(FOUNDER)
        letters = [order_letter(1, (SECOND, 1, "x"), sender) for sender in (FOUNDER, SECOND, THIRD, (2, 2))]
        self.assert_no_effect(order, *letters)
        order.cast("a")
        self.assert_no_effect(order, *letters)
        self.assert_no_effect(order, *[order_letter(2, (FOUNDER, 2, "x"), sender) for sender in (FOUNDER, SECOND)])


class MemberTest(Case):
    def test_casting(self):
        for me, payloads in ((SECOND, ("a", "", "b" * 30)), (THIRD, ("x", "x"))):
            order = order_of(me)
            pending = ()
            for index, payload in enumerate(payloads, start=1):
                pending += ((index, payload),)
                self.assertEqual(order.cast(payload), (index, [], [(0, cast_letter(me, index, payload))]))
                self.assertEqual((order.log(), order.pending()), ((), pending))

    def test_cast_letters_have_no_effect(self):
        order = order_of(SECOND)
        self.assert_no_effect(order, *[cast_letter(sender, 1, "x") for sender in (FOUNDER, SECOND, THIRD, (2, 2))])

    def test_pending_casts_end_when_they_are_appended(self):
        order = order_of(SECOND)
        for payload in "abc":
            order.cast(payload)
        order.take(order_letter(1, (SECOND, 1, "a")))
        self.assertEqual(order.pending(), ((2, "b"), (3, "c")))
        order.take(order_letter(2, (THIRD, 1, "z")))
        order.take(order_letter(3, (THIRD, 2, "z")))
        self.assertEqual(order.pending(), ((2, "b"), (3, "c")))
        order.take(order_letter(5, (SECOND, 3, "c")))
        self.assertEqual(order.pending(), ((2, "b"), (3, "c")))
        order.take(order_letter(4, (SECOND, 2, "b")))
        self.assertEqual(order.pending(), ())
        self.assertEqual(order.cast("d"), (4, [], [(0, cast_letter(SECOND, 4, "d"))]))
        self.assertEqual(order.pending(), ((4, "d"),))

    def test_messages_of_another_life_do_not_end_pending_casts(self):
        order = order_of(SECOND)
        order.cast("a")
        order.take(order_letter(1, ((1, 2), 1, "a")))
        self.assertEqual((order.log(), order.pending()), ((((1, 2), 1, "a"),), ((1, "a"),)))

    def test_order_letters_in_order(self):
        order = order_of(SECOND)
        log = ()
        for place, message in enumerate(((THIRD, 1, "a"), (FOUNDER, 1, ""), (THIRD, 2, "b")), start=1):
            log += (message,)
            self.assertEqual(order.take(order_letter(place, message)), ([message], []))
            self.assertEqual(order.log(), log)

    def test_order_letters_in_each_order(self):
        messages = [(THIRD, 1, "a"), (FOUNDER, 1, "b"), (THIRD, 2, "c"), (THIRD, 3, "d"), (FOUNDER, 2, "e")]
        for places in itertools.permutations(range(1, 6)):
            order = order_of(SECOND)
            taken = set()
            for place in places:
                taken.add(place)
                before = len(order.log())
                after = next(end for end in range(6) if end + 1 not in taken)
                letter = order_letter(place, messages[place - 1])
                self.assertEqual(order.take(letter), (messages[before:after], []))
                self.assertEqual(order.log(), tuple(messages[:after]))
                self.assert_no_effect(order, letter)
            self.assertEqual(len(order.log()), 5)

    def test_doubled_letters(self):
        order = order_of(SECOND)
        letter = order_letter(2, (THIRD, 2, "b"))
        self.assert_no_effect(order, letter, letter)
        self.assertEqual(order.take(order_letter(1, (THIRD, 1, "a")))[0], [(THIRD, 1, "a"), (THIRD, 2, "b")])
        self.assert_no_effect(order, letter, letter, order_letter(1, (THIRD, 1, "a")))

    def test_the_first_message_for_a_place_counts(self):
        order = order_of(SECOND)
        self.assert_no_effect(order, order_letter(2, (THIRD, 2, "b")), order_letter(2, (FOUNDER, 1, "x")))
        order.take(order_letter(1, (THIRD, 1, "a")))
        self.assertEqual(order.log(), ((THIRD, 1, "a"), (THIRD, 2, "b")))
        self.assert_no_effect(order, order_letter(1, (FOUNDER, 1, "x")), order_letter(2, (FOUNDER, 1, "x")))
        order.take(order_letter(3, (FOUNDER, 1, "y")))
        self.assertEqual(order.log()[2:], ((FOUNDER, 1, "y"),))

    def test_places_far_ahead(self):
        order = order_of(SECOND)
        self.assert_no_effect(order, *[order_letter(place, (THIRD, 2, "b")) for place in (3, 5, 400, MOST_NUMBER)])
        self.assertEqual(order.take(order_letter(1, (THIRD, 1, "a")))[0], [(THIRD, 1, "a")])

    def test_other_views(self):
        order = order_of(SECOND)
        self.assert_no_effect(order, *[order_letter(1, (THIRD, 1, "a"), view_id=view_id)
                                       for view_id in (OTHER_ID, (2, FOUNDER), (3, SECOND), (3, (0, 1)))])
        order.take(order_letter(2, (THIRD, 2, "b"), view_id=OTHER_ID))
        self.assertEqual(order.take(order_letter(1, (THIRD, 1, "a")))[0], [(THIRD, 1, "a")])

    def test_senders_other_than_the_founder(self):
        order = order_of(SECOND)
        self.assert_no_effect(order, *[order_letter(1, (THIRD, 1, "a"), sender)
                                       for sender in (SECOND, THIRD, (0, 1), (0, 3), (2, 1))])
        order.take(order_letter(2, (THIRD, 2, "b"), THIRD))
        self.assertEqual(order.take(order_letter(1, (THIRD, 1, "a")))[0], [(THIRD, 1, "a")])


class AgainTest(Case):
    def behind(self, order, process):
        """Return the places of the order letters that are sent again to the process."""
        return [letter[3] for receiver, letter in order.again() if receiver == process]

    def founder_with(self, count):
        order = order_of(FOUNDER)
        for at in range(count):
            order.cast(str(at))
        return order

    def test_letters_of_the_founder(self):
        order = self.founder_with(2)
        order.take(cast_letter(THIRD, 1, "z"))
        letters = [order_letter(place, message) for place, message in enumerate(order.log(), start=1)]
        self.assertEqual(order.again(), [(1, letter) for letter in letters] + [(3, letter) for letter in letters])
        order.heard(SECOND, 2)
        self.assertEqual(order.again(), [(1, letters[2])] + [(3, letter) for letter in letters])
        order.heard(THIRD, 1)
        self.assertEqual(order.again(), [(1, letters[2]), (3, letters[1]), (3, letters[2])])
        order.heard(SECOND, 3)
        order.heard(THIRD, 3)
        self.assertEqual(order.again(), [])

    def test_at_most_so_many_letters_to_each_member(self):
        for count in (0, 1, 15, 16, 17, 40):
            order = self.founder_with(count)
            for told in (0, 1, 2, 16, 24, 40):
                order.heard(THIRD, told)
                self.assertEqual(self.behind(order, 1), list(range(1, min(count, 16) + 1)))
                self.assertEqual(self.behind(order, 3), list(range(told + 1, min(count, told + 16) + 1)))

    def test_only_the_greatest_number_counts(self):
        order = self.founder_with(10)
        for told, first in ((3, 4), (2, 4), (0, 4), (3, 4), (5, 6), (4, 6), (9, 10), (1, 10)):
            self.assertIsNone(order.heard(SECOND, told))
            self.assertEqual(self.behind(order, 1), list(range(first, 11)))
            self.assertEqual(self.behind(order, 3), list(range(1, 11)))

    def test_a_number_beyond_the_log(self):
        order = self.founder_with(3)
        order.heard(SECOND, 5)
        order.heard(THIRD, MOST_NUMBER)
        self.assertEqual(order.again(), [])
        for _ in range(4):
            order.cast("x")
        self.assertEqual((self.behind(order, 1), self.behind(order, 3)), ([6, 7], []))

    def test_members_that_are_not_in_the_view(self):
        order = self.founder_with(3)
        before = order.again()
        for member in ((2, 1), (1, 2), (3, 8), (0, 1)):
            self.assertIsNone(order.heard(member, 3))
        self.assertEqual(order.again(), before)

    def test_telling_of_the_founder_has_no_effect_on_others(self):
        order = self.founder_with(3)
        before = order.again()
        order.heard(FOUNDER, 3)
        self.assertEqual(order.again(), before)

    def test_asking_again_has_no_effect(self):
        order = self.founder_with(20)
        self.assertEqual(order.again(), order.again())
        other = order_of(SECOND)
        other.cast("a")
        self.assertEqual(other.again(), other.again())

    def test_letters_of_another_member(self):
        for count in (0, 1, 15, 16, 17, 40):
            order = order_of(THIRD)
            for at in range(count):
                order.cast(str(at))
            expected = [(0, cast_letter(THIRD, at + 1, str(at))) for at in range(min(count, 16))]
            self.assertEqual(order.again(), expected)

    def test_appended_casts_are_not_sent_again(self):
        order = order_of(SECOND)
        for at in range(20):
            order.cast(str(at))
        for place in range(1, 4):
            order.take(order_letter(place, (SECOND, place, str(place - 1))))
        self.assertEqual(order.again(), [(0, cast_letter(SECOND, at + 1, str(at))) for at in range(3, 19)])

    def test_what_is_told_to_another_member_has_no_effect(self):
        order = order_of(SECOND)
        order.cast("a")
        before = order.again()
        for member in MEMBERS:
            self.assertIsNone(order.heard(member, 1))
        self.assertEqual((order.again(), order.pending(), order.log()), (before, ((1, "a"),), ()))
        order = order_of(THIRD)
        order.take(order_letter(1, (SECOND, 1, "a")))
        self.assertEqual(order.again(), [])


class NewListTest(Case):
    def spoil(self, values):
        values.append("spoiled")
        values.reverse()
        del values[1:]

    def test_lists_of_the_founder(self):
        order = order_of(FOUNDER)
        _, delivered, letters = order.cast("a")
        self.spoil(delivered)
        self.spoil(letters)
        delivered, letters = order.take(cast_letter(SECOND, 1, "b"))
        self.spoil(delivered)
        self.spoil(letters)
        for values in order.take(cast_letter(SECOND, 7, "b")):
            self.spoil(values)
        log = ((FOUNDER, 1, "a"), (SECOND, 1, "b"))
        letters = both(1, log[0])[:1] + both(2, log[1])[:1] + both(1, log[0])[1:] + both(2, log[1])[1:]
        for _ in range(2):
            self.assertEqual((order.log(), order.again()), (log, letters))
            self.spoil(order.again())
        self.assertEqual(order.take(cast_letter(SECOND, 7, "b")), ([], []))

    def test_lists_of_another_member(self):
        order = order_of(SECOND)
        _, delivered, letters = order.cast("a")
        self.spoil(delivered)
        self.spoil(letters)
        for values in order.take(order_letter(2, (THIRD, 2, "c"))) + order.take(cast_letter(THIRD, 1, "c")):
            self.spoil(values)
        delivered, letters = order.take(order_letter(1, (THIRD, 1, "b")))
        self.assertEqual(delivered, [(THIRD, 1, "b"), (THIRD, 2, "c")])
        self.spoil(delivered)
        self.spoil(letters)
        for _ in range(2):
            self.assertEqual((order.log(), order.pending()), (((THIRD, 1, "b"), (THIRD, 2, "c")), ((1, "a"),)))
            self.assertEqual(order.again(), [(0, cast_letter(SECOND, 1, "a"))])
            self.spoil(order.again())

    def test_what_was_returned_does_not_change_later(self):
        order = order_of(SECOND)
        order.cast("a")
        log, pending, again = order.log(), order.pending(), order.again()
        order.take(order_letter(1, (SECOND, 1, "a")))
        self.assertEqual((log, pending, again), ((), ((1, "a"),), [(0, cast_letter(SECOND, 1, "a"))]))
        self.assertIs(type(order.log()), tuple)
        self.assertIs(type(order.pending()), tuple)

    def test_orders_are_independent(self):
        one, other = order_of(SECOND), order_of(SECOND)
        one.cast("a")
        one.take(order_letter(1, (THIRD, 1, "b")))
        self.assertEqual((other.log(), other.pending(), other.again()), ((), (), []))


class RunTest(Case):
    """Points 402 and 409: a view whose letters are lost, doubled and delivered in any order."""

    def send(self, letters):
        for receiver, letter in letters:
            self.assertTrue(is_letter(4, letter))
            self.assertNotEqual(receiver, letter[1][0])
            self.packets.append((receiver, letter))

    def add(self, member, delivered):
        self.delivered[member].extend(delivered)
        self.assertEqual(tuple(self.delivered[member]), self.orders[member].log())

    def cast(self, member, payload):
        index, delivered, letters = self.orders[member].cast(payload)
        self.casts[member].append((member, index, payload))
        self.assertEqual(index, len(self.casts[member]))
        self.add(member, delivered)
        self.send(letters)

    def receive(self, receiver, letter):
        member = next(member for member in MEMBERS if member[0] == receiver)
        delivered, letters = self.orders[member].take(letter)
        self.add(member, delivered)
        self.send(letters)

    def tick(self):
        for member in MEMBERS:
            self.orders[FOUNDER].heard(member, len(self.orders[member].log()))
        for member in MEMBERS:
            self.send(self.orders[member].again())

    def check(self):
        full = self.orders[FOUNDER].log()
        self.assertTrue(is_log(4, full))
        for member in MEMBERS:
            log, pending = self.orders[member].log(), self.orders[member].pending()
            self.assertEqual(log, full[:len(log)])
            self.assertTrue(is_pending(pending))
            own = [message for message in log if message[0] == member]
            self.assertEqual(own + [(member,) + pair for pair in pending], self.casts[member])

    def run_view(self, chance):
        self.packets = []
        self.orders = {member: order_of(member) for member in MEMBERS}
        self.casts = {member: [] for member in MEMBERS}
        self.delivered = {member: [] for member in MEMBERS}
        for step in range(250):
            what = chance.random()
            if what < 0.2:
                self.cast(chance.choice(MEMBERS), str(step))
            elif what < 0.25:
                self.tick()
            elif self.packets:
                at = chance.randrange(len(self.packets))
                packet = self.packets[at] if what < 0.35 else self.packets.pop(at)
                if what < 0.9:
                    self.receive(*packet)
            self.check()
        for _ in range(12):
            self.tick()
            while self.packets:
                self.receive(*self.packets.pop(0))
        self.check()
        for member in MEMBERS:
            self.assertEqual(self.orders[member].log(), self.orders[FOUNDER].log())
            self.assertEqual(self.orders[member].pending(), ())

    def test_many_runs(self):
        for seed in range(25):
            self.run_view(random.Random(seed))


if __name__ == "__main__":
    unittest.main()
