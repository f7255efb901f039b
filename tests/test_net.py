"""Points 701 to 703: the network."""

import itertools
import unittest

from mustercall.errors import BadSchedule
from mustercall.net import Net, is_groups
from odd import Stubborn, not_plain


def groupings(processes):
    """Return each way to put the processes into groups: tuples in ascending order."""
    if not processes:
        return [()]
    first, rest = processes[0], processes[1:]
    found = []
    for size in range(len(rest) + 1):
        for others in itertools.combinations(rest, size):
            left = tuple(process for process in rest if process not in others)
            found += [((first,) + others,) + groups for groups in groupings(left)]
    return found


class Case(unittest.TestCase):
    def assert_refused(self, reason, function, *arguments):
        with self.assertRaises(BadSchedule) as caught:
            function(*arguments)
        self.assertIs(type(caught.exception), BadSchedule)
        self.assertEqual((caught.exception.line, caught.exception.reason), (0, reason))


class GroupsValueTest(Case):
    def test_right_values(self):
        for count, value in ((1, ()), (1, ((0,),)), (5, ()), (5, ((3, 1), (4,))), (5, ((0, 1, 2, 3, 4),)),
                             (5, ((4,), (3,), (2,), (1,), (0,))), (12, ((11, 0),)), (2, ((1,),)),
                             (12, (tuple(range(11, -1, -1)),))):
            self.assertIs(is_groups(count, value), True, (count, value))

    def test_each_grouping_in_each_order(self):
        for groups in groupings((0, 1, 2, 3)):
            for order in itertools.permutations(groups):
                self.assertIs(is_groups(4, order), True)
                self.assertIs(is_groups(4, tuple(group[::-1] for group in order)), True)
                self.assertIs(is_groups(3, order), False)

    def test_wrong_values(self):
        wrong = [((),), ((0,), ()), ((0, 0),), ((0,), (0,)), ((0, 1), (2, 1)), ((0,), (1,), (0,)), ((5,),), ((-1,),),
                 ((0, 5),), ((True,),), ((0, True),), (("0",),), ("0",), ("",), (0,), (0, 1), ((0, 1), 2), (((0,),),),
                 ([0],), [(0,)], [], [[0]], ((0, None),), ((0, [1]),), "", "01", 0, 5, ({0: 1},), ((0.0,),),
                 ((10 ** 30,),)]
        for value in wrong:
            self.assertIs(is_groups(5, value), False, value)
        for at, (_, value) in enumerate(not_plain()):
            for each in (value, (value,), ((value,),), ((0,), (1, value))):
                with self.subTest(at=at):
                    self.assertIs(is_groups(5, each), False)
        for value in (Stubborn(), (Stubborn(),), ((Stubborn(),),), ((0,), Stubborn())):
            self.assertIs(is_groups(5, value), False)

    def test_counts_that_are_none(self):
        for count in (0, -1, 13, True, "5", None, 5.0, (), Stubborn()):
            self.assertIs(is_groups(count, ((0,),)), False)


class PacketsTest(Case):
    def net(self, letters="abc"):
        net = Net(3)
        for letter in letters:
            self.assertIsNone(net.send(0, 1, letter))
        return net

    def letters(self, net):
        return "".join(letter for _, _, letter in net.packets())

    def test_a_new_net(self):
        net = Net(3)
        self.assertEqual((net.packets(), net.groups()), ([], ((0, 1, 2),)))

    def test_sending(self):
        net = Net(12)
        packets = [(0, 1, ("here", 0)), (1, 0, "x"), (0, 1, ("here", 0)), (11, 2, ()), (3, 3, "y")]
        for at, packet in enumerate(packets, start=1):
            net.send(*packet)
            self.assertEqual(net.packets(), packets[:at])

    def test_taking(self):
        for position, letter, left in ((0, "a", "bc"), (1, "b", "ac"), (2, "c", "ab")):
            net = self.net()
            self.assertEqual(net.take(position), (0, 1, letter))
            self.assertEqual(self.letters(net), left)
        for _ in range(2):
            net.take(0)
        self.assertEqual(net.packets(), [])

    def test_doubling(self):
        for position, letters in ((0, "abca"), (1, "abcb"), (2, "abcc")):
            net = self.net()
            self.assertIsNone(net.double(position))
            self.assertEqual(self.letters(net), letters)
            self.assertEqual(net.packets()[3], net.packets()[position])
        net.double(3)
        self.assertEqual(self.letters(net), "abccc")
        net.take(2)
        self.assertEqual(self.letters(net), "abcc")

    def test_moving(self):
        for position, letters in ((0, "bca"), (1, "acb"), (2, "abc")):
            net = self.net()
            self.assertIsNone(net.move(position))
            self.assertEqual(self.letters(net), letters)

    def test_positions_without_a_packet(self):
        for letters in ("", "a", "abc"):
            for position in (len(letters), len(letters) + 1, -1, -2, -len(letters), 10 ** 12, 10 ** 30):
                if position == 0 < len(letters):
                    continue
                net = self.net(letters)
                for method in (net.take, net.double, net.move):
                    self.assert_refused("position", method, position)
                self.assertEqual(self.letters(net), letters)

    def test_the_list_is_new(self):
        net = self.net()
        packets = net.packets()
        packets.clear()
        self.assertEqual(self.letters(net), "abc")
        packets = net.packets()
        net.take(0)
        self.assertEqual(len(packets), 3)

    def test_parting_does_not_change_the_packets(self):
        net = self.net()
        before = net.packets()
        for groups in (((0,), (1,)), (), ((2, 1),)):
            net.part(groups)
            self.assertEqual(net.packets(), before)
            net.heal()
            self.assertEqual(net.packets(), before)
        net.part(((0,), (1,)))
        net.send(0, 1, "d")
        net.double(0)
        self.assertEqual(self.letters(net), "abcda")
        self.assertEqual(net.take(3), (0, 1, "d"))

    def test_nets_are_independent(self):
        one, other = Net(3), Net(3)
        one.send(0, 1, "a")
        one.part(((0,),))
        self.assertEqual((other.packets(), other.groups()), ([], ((0, 1, 2),)))


class PartingTest(Case):
    def assert_groups(self, net, count, groups):
        self.assertEqual(net.groups(), groups)
        for one, other in itertools.product(range(count), repeat=2):
            together = any(one in group and other in group for group in groups)
            self.assertIs(net.joined(one, other), together, (one, other))

    def test_all_are_joined_at_first(self):
        for count in range(1, 13):
            self.assert_groups(Net(count), count, (tuple(range(count)),))

    def test_the_example_of_the_document(self):
        net = Net(5)
        self.assertIsNone(net.part(((3, 1), (4,))))
        self.assertEqual(net.groups(), ((0, 2), (1, 3), (4,)))
        self.assertEqual((net.joined(0, 2), net.joined(0, 1)), (True, False))

    def test_each_parting_in_each_order(self):
        for groups in groupings((0, 1, 2, 3)):
            for order in itertools.permutations(groups):
                for named in range(len(order) + 1):
                    net = Net(4)
                    net.part(tuple(group[::-1] for group in order[:named]))
                    rest = tuple(sorted(process for group in order[named:] for process in group))
                    whole = sorted(order[:named] + ((rest,) if rest else ()))
                    self.assert_groups(net, 4, tuple(whole))

    def test_a_later_parting_replaces_the_earlier_one(self):
        net = Net(4)
        net.part(((0,), (1,), (2,), (3,)))
        self.assert_groups(net, 4, ((0,), (1,), (2,), (3,)))
        net.part(((2, 0),))
        self.assert_groups(net, 4, ((0, 2), (1, 3)))
        net.part(((1, 2),))
        self.assert_groups(net, 4, ((0, 3), (1, 2)))
        net.part(())
        self.assert_groups(net, 4, ((0, 1, 2, 3),))

    def test_healing(self):
        net = Net(4)
        self.assertIsNone(net.heal())
        self.assert_groups(net, 4, ((0, 1, 2, 3),))
        net.part(((3,), (1,)))
        net.heal()
        self.assert_groups(net, 4, ((0, 1, 2, 3),))

    def test_groups_that_are_none(self):
        net = Net(4)
        net.part(((3,), (1,)))
        for groups in (((4,),), ((0, 0),), ((0,), (0,)), ((),), [(0,)], ([0],), None, "", 0, ((True,),), ((-1,),)):
            self.assert_refused("groups", net.part, groups)
            self.assert_groups(net, 4, ((0, 2), (1,), (3,)))


if __name__ == "__main__":
    unittest.main()
