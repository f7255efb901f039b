"""Points 700 and 704 to 710: the world, its acts and its history."""

import random
import unittest

from mustercall.cells import Cells
from mustercall.errors import BadSchedule, DiskCrashed
from mustercall.history import History
from mustercall.limits import MOST_NUMBER
from mustercall.member import Member
from mustercall.world import World
from odd import Stubborn, not_plain
from worlds import act_by_chance, disk_texts, is_possible, refusal, run_by_chance, sight

A, B, C = (0, 1), (1, 1), (2, 1)


class Shadow:
    """What the tables of the document say of a world, with members, disks and packets of its own."""

    def __init__(self, count):
        self.count = count
        self.time = 0
        self.packets = []
        self.group_of = {process: 0 for process in range(count)}
        self.disks = [Cells() for _ in range(count)]
        self.members = {}
        self.history = []
        for process in range(count):
            self.start(process)

    def note(self, process, call, *arguments):
        """Call the method of the member, note its new events, and send its letters."""
        member = self.members[process]
        before = len(member.events())
        letters = call(*arguments)
        self.history += [(event[0], self.time, member.member(), *event[1:]) for event in member.events()[before:]]
        self.packets += [(process, receiver, letter) for receiver, letter in letters]

    def perform(self, act):
        getattr(self, act[0])(*act[1:])

    def tick(self, count):
        for _ in range(count):
            self.time += 1
            for process in sorted(self.members):
                self.note(process, self.members[process].tick)

    def calm(self, count):
        for _ in range(count):
            self.tick(1)
            self.round()

    def round(self):
        for _ in list(self.packets):
            self.deliver(0)

    def deliver(self, position):
        sender, receiver, letter = self.packets.pop(position)
        if receiver in self.members and self.group_of[sender] == self.group_of[receiver]:
            self.note(receiver, self.members[receiver].receive, letter)

    def lose(self, position):
        del self.packets[position]

    def double(self, position):
        self.packets.append(self.packets[position])

    def move(self, position):
        self.packets.append(self.packets.pop(position))

    def cast(self, process, payload):
        self.note(process, self.members[process].cast, payload)

    def part(self, groups):
        self.heal()
        for name, group in enumerate(groups, start=1):
            self.group_of.update((process, name) for process in group)

    def heal(self):
        self.group_of = {process: 0 for process in range(self.count)}

    def crash(self, process):
        del self.members[process]
        self.disks[process].crash()
        self.history.append(("crash", self.time, process))

    def start(self, process):
        try:
            member = Member(process, self.count, self.disks[process])
        except DiskCrashed:
            self.disks[process].crash()
            return
        self.members[process] = member
        self.history += [(event[0], self.time, member.member(), *event[1:]) for event in member.events()]

    def arm(self, process, count, keep):
        self.disks[process].arm(count, keep)

    def groups(self):
        names = set(self.group_of.values())
        return tuple(sorted(tuple(process for process in range(self.count) if self.group_of[process] == name)
                            for name in names))

    def sight(self):
        members = [self.members[process] for process in sorted(self.members)]
        return {
            "time": self.time,
            "packets": self.packets,
            "groups": self.groups(),
            "up": sorted(self.members),
            "views": [(member.member(), *member.view(), member.frozen()) for member in members],
            "members": [(member.member(), member.view(), member.frozen(), member.log(), member.waiting(),
                         member.events()) for member in members],
            "disks": [disk_texts(disk) for disk in self.disks],
            "history": self.history,
        }


class Case(unittest.TestCase):
    def world(self, count, *acts):
        world = World(count)
        for act in acts:
            self.assertIsNone(world.act(act))
        return world

    def assert_refused(self, reason, function, *arguments):
        with self.assertRaises(BadSchedule) as caught:
            function(*arguments)
        self.assertIs(type(caught.exception), BadSchedule)
        self.assertEqual((caught.exception.line, caught.exception.reason), (0, reason))


class NewTest(Case):
    def test_a_new_world(self):
        for count in range(1, 13):
            world = World(count)
            self.assertEqual(sight(world, count), Shadow(count).sight())
            self.assertEqual((world.time(), world.packets(), world.groups()), (0, [], (tuple(range(count)),)))
            members = [(process, 1) for process in range(count)]
            self.assertEqual(world.views(), [(member, (0, member), (member,), False) for member in members])
            self.assertEqual(world.history().events(),
                             [("view", 0, member, (0, member), (member,)) for member in members])
            for process in range(count):
                self.assertIs(world.is_up(process), True)
                self.assertIs(type(world.member(process)), Member)
                self.assertIs(type(world.disk(process)), Cells)
                self.assertEqual(disk_texts(world.disk(process)), ("1=1", ""))

    def test_counts_that_are_none(self):
        for count in [0, -1, 13, 10 ** 30, "3", "", (), (3,), Stubborn()] + [value for _, value in not_plain()]:
            self.assert_refused("processes", World, count)

    def test_worlds_are_independent(self):
        one, other = World(2), World(2)
        one.act(("calm", 5))
        one.act(("crash", 0))
        self.assertEqual(sight(other, 2), sight(World(2), 2))


class ShadowTest(Case):
    """Each kind of act does what the table says."""

    def run_beside(self, seed, steps):
        chance = random.Random(seed)
        count = chance.randint(1, 5)
        world, shadow = World(count), Shadow(count)
        kinds = set()
        for _ in range(steps):
            act = act_by_chance(chance, count, len(shadow.packets))
            if not is_possible(world, act):
                before = sight(world, count)
                self.assertIsNotNone(refusal(world.act, act))
                self.assertEqual(sight(world, count), before)
                continue
            kinds.add(act[0])
            self.assertIsNone(world.act(act))
            shadow.perform(act)
            self.assertEqual(sight(world, count), shadow.sight())
        return kinds, world

    def test_acts_by_chance(self):
        kinds, events = set(), []
        for seed in range(25):
            found, world = self.run_beside(seed, 150)
            kinds |= found
            events += world.history().events()
        self.assertEqual(len(kinds), 13)
        self.assertEqual({event[0] for event in events}, {"view", "cast", "deliver", "crash"})
        self.assertTrue(any(event[0] == "view" and len(event[4]) > 2 for event in events))


class ActTest(Case):
    def test_ticks(self):
        world, members = World(3), [Member(process, 3, Cells()) for process in range(3)]
        letters = [(process, *pair) for process in range(3) for pair in members[process].tick()]
        world.act(("tick", 1))
        self.assertEqual((world.time(), world.packets()), (1, letters))
        world.act(("crash", 1))
        world.act(("tick", 2))
        more = [(process, *pair) for _ in range(2) for process in (0, 2) for pair in members[process].tick()]
        self.assertEqual((world.time(), world.packets()), (3, letters + more))

    def test_many_ticks(self):
        world = self.world(1, ("tick", 1000), ("calm", 1000))
        self.assertEqual(world.time(), 2000)

    def test_a_round_delivers_what_is_in_flight_when_it_begins(self):
        world = self.world(2, ("tick", 1), ("round",))
        self.assertEqual(world.packets(), [])
        world.act(("tick", 1))
        kinds = [letter[0] for _, _, letter in world.packets()]
        self.assertEqual(kinds, ["here", "propose", "here"])
        world.act(("round",))
        self.assertEqual([packet[:2] + packet[2][:1] for packet in world.packets()], [(1, 0, "state")])
        world.act(("round",))
        self.assertEqual([packet[:2] + packet[2][:1] for packet in world.packets()], [(0, 1, "install")])
        world.act(("round",))
        self.assertEqual(world.views(), [(member, (1, A), (A, B), False) for member in (A, B)])
        world.act(("round",))
        self.assertEqual((world.packets(), world.time()), ([], 2))

    def test_calm(self):
        world = self.world(3, ("calm", 4))
        other = World(3)
        for _ in range(4):
            other.act(("tick", 1))
            other.act(("round",))
        self.assertEqual(sight(world, 3), sight(other, 3))
        self.assertEqual(world.views(), [(member, (1, A), (A, B, C), False) for member in (A, B, C)])

    def test_packets(self):
        world = self.world(3, ("tick", 1))
        packets = world.packets()
        self.assertEqual([packet[:2] for packet in packets], [(0, 1), (0, 2), (1, 0), (1, 2), (2, 0), (2, 1)])
        world.act(("lose", 5))
        world.act(("lose", 0))
        self.assertEqual(world.packets(), packets[1:5])
        world.act(("double", 1))
        self.assertEqual(world.packets(), packets[1:5] + packets[2:3])
        world.act(("move", 0))
        self.assertEqual(world.packets(), packets[2:5] + packets[2:3] + packets[1:2])
        for position in (1, 0):
            packets = world.packets()
            world.act(("deliver", position))
            self.assertEqual(world.packets(), packets[:position] + packets[position + 1:])

    def test_a_delivered_letter_is_received_and_a_lost_one_is_not(self):
        for act, hears in (("deliver", True), ("lose", False), ("double", False), ("move", False)):
            world = self.world(2, ("tick", 1), (act, 1))
            for _ in world.packets():
                world.act(("lose", 0))
            world.act(("tick", 1))
            self.assertEqual([letter[0] for _, _, letter in world.packets()],
                             ["here", "propose", "here"] if hears else ["here", "here"])

    def test_letters_are_sent_in_order_from_the_process(self):
        world = self.world(3, ("calm", 4), ("cast", 0, "a"))
        order = ("order", A, (1, A), 1, (A, 1, "a"))
        self.assertEqual(world.packets(), [(0, 1, order), (0, 2, order)])
        world = self.world(3, ("calm", 4), ("cast", 2, "c"))
        self.assertEqual(world.packets(), [(2, 0, ("cast", C, (1, A), 1, "c"))])
        world.act(("deliver", 0))
        order = ("order", A, (1, A), 1, (C, 1, "c"))
        self.assertEqual(world.packets(), [(0, 1, order), (0, 2, order)])

    def test_a_packet_to_a_process_that_is_down(self):
        world = self.world(2, ("tick", 1), ("crash", 1))
        before = sight(world, 2)
        world.act(("deliver", 0))
        self.assertEqual(sight(world, 2), {**before, "packets": before["packets"][1:]})
        world.act(("start", 1))
        world.act(("deliver", 0))
        world.act(("tick", 1))
        self.assertEqual([packet[2][:2] for packet in world.packets()],
                         [("here", A), ("propose", A), ("here", (1, 2))])

    def test_a_packet_of_a_process_that_is_down_is_received(self):
        world = self.world(2, ("tick", 1), ("crash", 1), ("deliver", 1), ("tick", 1))
        self.assertEqual([letter[0] for _, _, letter in world.packets()], ["here", "here", "propose"])

    def test_a_packet_between_processes_that_are_not_joined(self):
        for part in (("part", ((0,),)), ("part", ((1,),)), ("part", ((0,), (1,)))):
            world = self.world(2, ("tick", 1), part)
            before = sight(world, 2)
            world.act(("round",))
            self.assertEqual(sight(world, 2), {**before, "packets": []})

    def test_only_the_parting_at_the_delivery_counts(self):
        world = self.world(2, ("part", ((0,), (1,))), ("tick", 1), ("heal",), ("round",), ("tick", 1))
        self.assertIn("propose", [letter[0] for _, _, letter in world.packets()])
        world = self.world(2, ("part", ((0,),)), ("tick", 1), ("part", ((1, 0),)), ("round",), ("tick", 1))
        self.assertIn("propose", [letter[0] for _, _, letter in world.packets()])

    def test_parting_and_healing(self):
        world = self.world(5, ("tick", 1), ("part", ((3, 1), (4,))))
        self.assertEqual((world.groups(), len(world.packets())), (((0, 2), (1, 3), (4,)), 20))
        world.act(("calm", 6))
        self.assertEqual([view[2] for view in world.views()],
                         [(A, C), (B, (3, 1)), (A, C), (B, (3, 1)), ((4, 1),)])
        world.act(("part", ((0,),)))
        self.assertEqual(world.groups(), ((0,), (1, 2, 3, 4)))
        world.act(("heal",))
        self.assertEqual(world.groups(), ((0, 1, 2, 3, 4),))
        world.act(("calm", 8))
        self.assertEqual({view[1:] for view in world.views()},
                         {(world.views()[0][1], tuple((process, 1) for process in range(5)), False)})

    def test_crashing_and_starting(self):
        world = self.world(2, ("cast", 1, "a"), ("tick", 3), ("crash", 1))
        self.assertIs(world.is_up(1), False)
        self.assertEqual([view[0] for view in world.views()], [A])
        self.assert_refused("state", world.member, 1)
        self.assertEqual(disk_texts(world.disk(1)), ("1=1", ""))
        world.act(("start", 1))
        self.assertEqual(world.views()[1], ((1, 2), (0, (1, 2)), ((1, 2),), False))
        self.assertEqual((world.member(1).log(), disk_texts(world.disk(1))), ((), ("1=1", "2=2")))
        for life in range(3, 8):
            world.act(("crash", 1))
            world.act(("start", 1))
            self.assertEqual(world.member(1).member(), (1, life))

    def test_a_start_on_an_armed_disk(self):
        for keep, texts, life in ((0, ("1=1", ""), 2), (1, ("1=1", "2"), 2), (3, ("1=1", "2=2"), 3)):
            world = self.world(2, ("crash", 1), ("arm", 1, 0, keep), ("tick", 1))
            before = world.history().events()
            world.act(("start", 1))
            self.assertIs(world.is_up(1), False)
            self.assertEqual(world.history().events(), before)
            self.assertEqual(disk_texts(world.disk(1)), texts)
            world.act(("start", 1))
            self.assertEqual(world.member(1).member(), (1, life))
            self.assertEqual(world.history().events()[len(before):],
                             [("view", 1, (1, life), (0, (1, life)), ((1, life),))])

    def test_a_disk_that_is_armed_for_a_later_write(self):
        world = self.world(2, ("crash", 1), ("arm", 1, 1, 0), ("start", 1))
        self.assertEqual(world.member(1).member(), (1, 2))
        with self.assertRaises(DiskCrashed):
            world.disk(1).write(0, "x")
        world.act(("crash", 1))
        world.act(("start", 1))
        self.assertEqual(world.member(1).member(), (1, 3))

    def test_arming_replaces_arming(self):
        world = self.world(2, ("crash", 1), ("arm", 1, 0, 0), ("arm", 1, 5, 0), ("start", 1))
        self.assertIs(world.is_up(1), True)

    def test_a_crash_starts_the_disk_again(self):
        world = World(2)
        world.disk(0).arm(0, 1)
        with self.assertRaises(DiskCrashed):
            world.disk(0).write(1, "x")
        world.act(("crash", 0))
        self.assertEqual(disk_texts(world.disk(0)), ("1=1", "x"))

    def test_a_process_that_is_down_takes_no_ticks(self):
        world = self.world(2, ("crash", 0), ("tick", 1))
        self.assertEqual([packet[0] for packet in world.packets()], [1])
        world = self.world(2, ("crash", 0), ("crash", 1), ("calm", 9))
        self.assertEqual((world.packets(), world.views(), world.time()), ([], [], 9))


class HistoryTest(Case):
    """Point 710."""

    def test_the_events_of_the_members(self):
        world = self.world(2, ("cast", 1, "a"), ("tick", 2), ("cast", 1, "b"), ("crash", 1), ("tick", 1), ("start", 1),
                           ("cast", 0, "c"))
        first = [("view", 0, A, (0, A), (A,)), ("view", 0, B, (0, B), (B,))]
        new = (1, 2)
        self.assertEqual(world.history().events(), first + [
            ("cast", 0, B, (0, B), 1, "a"), ("deliver", 0, B, (0, B), (B, 1, "a")),
            ("cast", 2, B, (0, B), 2, "b"), ("deliver", 2, B, (0, B), (B, 2, "b")),
            ("crash", 2, 1), ("view", 3, new, (0, new), (new,)),
            ("cast", 3, A, (0, A), 1, "c"), ("deliver", 3, A, (0, A), (A, 1, "c"))])

    def test_events_of_ticks_and_letters(self):
        # The cast waits, because B is frozen when it comes.
        world = self.world(2, ("calm", 3), ("cast", 1, "b"), ("calm", 3))
        view = (1, A)
        self.assertEqual(world.history().events()[2:], [
            ("view", 3, A, view, (A, B)), ("view", 4, B, view, (A, B)), ("cast", 4, B, view, 1, "b"),
            ("deliver", 5, A, view, (B, 1, "b")), ("deliver", 6, B, view, (B, 1, "b"))])
        for process, member in enumerate((A, B)):
            mine = [event[:1] + event[3:] for event in world.history().events() if event[2] == member]
            self.assertEqual(mine, world.member(process).events())

    def test_the_order_and_the_times_of_the_events(self):
        chance = random.Random(11)
        world = World(4)
        for _ in range(300):
            before = world.history().events()
            run_by_chance(world, chance, 4, 1)
            events = world.history().events()
            self.assertEqual(events[:len(before)], before)
            times = [event[1] for event in events[len(before):]]
            self.assertEqual(times, sorted(times))
            self.assertLessEqual(times, [world.time()] * len(times))
        self.assertGreater(len(events), 50)

    def test_the_history_is_new(self):
        world = self.world(2, ("cast", 0, "a"))
        history = world.history()
        self.assertIs(type(history), History)
        before = history.events()
        history.add(("crash", 100, 0))
        self.assertEqual(world.history().events(), before)
        world.act(("tick", 1))
        world.act(("cast", 0, "b"))
        self.assertEqual(len(world.history().events()), len(before) + 2)
        self.assertEqual(len(history.events()), len(before) + 1)


class RefusedTest(Case):
    """Point 709."""

    def setUp(self):
        # The processes 0 and 1 are up, 2 is down, and there are 4 packets.
        self.world_of_three = self.world(3, ("crash", 2), ("tick", 1))

    def assert_impossible(self, reason, *acts):
        before = sight(self.world_of_three, 3)
        for act in acts:
            self.assert_refused(reason, self.world_of_three.act, act)
            self.assertEqual(sight(self.world_of_three, 3), before)

    def test_acts(self):
        self.assert_impossible("act", *[value for _, value in not_plain()])
        self.assert_impossible("act", (), "tick", ("tick",), ("ticks", 1), ("round", 0), ["round"], ("cast", 0),
                               ("cast", 0, "a", 0), ("arm", 2, 0), ("part",), ("heal", ()), ("crash",), ("group", 3),
                               (("round",),), Stubborn(), (Stubborn(), 1))

    def test_numbers(self):
        for number in (-1, MOST_NUMBER + 1, "0", None, True, 1.0, Stubborn()):
            self.assert_impossible("number", ("tick", number), ("calm", number), ("deliver", number), ("lose", number),
                                   ("double", number), ("move", number), ("arm", 2, number, 0), ("arm", 2, 0, number))
        self.assert_impossible("number", ("tick", 0), ("calm", 0), ("tick", 1001), ("calm", 1001))

    def test_processes(self):
        for process in (-1, 3, 12, MOST_NUMBER, "0", None, True, (), (0,), [0], 0.0, Stubborn()):
            self.assert_impossible("process", ("cast", process, "a"), ("crash", process), ("start", process),
                                   ("arm", process, 0, 0))
            for method in (self.world_of_three.is_up, self.world_of_three.member, self.world_of_three.disk):
                self.assert_refused("process", method, process)

    def test_payloads(self):
        for payload in ("a" * 31, chr(37), "\n", "\u00e9", None, 0, (), ["a"], b"a", Stubborn()):
            self.assert_impossible("payload", ("cast", 0, payload), ("cast", 2, payload))

    def test_groups(self):
        for groups in (((3,),), ((0, 0),), ((0,), (0,)), ((),), [(0,)], ([0],), None, "", 0, ((True,),), Stubborn()):
            self.assert_impossible("groups", ("part", groups))

    def test_positions(self):
        for position in (4, 5, MOST_NUMBER):
            self.assert_impossible("position", ("deliver", position), ("lose", position), ("double", position),
                                   ("move", position))
        for kind in ("deliver", "lose", "double", "move"):
            self.assert_refused("position", World(2).act, (kind, 0))

    def test_states(self):
        self.assert_impossible("state", ("cast", 2, "a"), ("crash", 2), ("start", 0), ("start", 1), ("arm", 0, 0, 0),
                               ("arm", 1, 5, 5))
        self.assert_refused("state", self.world_of_three.member, 2)

    def test_the_order_of_the_reasons(self):
        self.assert_impossible("act", ("arm", 9, -1), ("cast", 9, None, 0), ("tick", 0, 0), ("deliver",))
        self.assert_impossible("number", ("arm", 9, -1, 0), ("arm", 0, 0, -1), ("arm", None, None, None))
        self.assert_impossible("process", ("cast", 3, None), ("cast", -1, "a" * 31))
        self.assert_impossible("payload", ("cast", 2, None))

    def test_a_refused_act_leaves_the_disk_as_it_is(self):
        world = self.world(2, ("crash", 1), ("arm", 1, 0, 1))
        for act in (("arm", 1, -1, 0), ("crash", 1), ("cast", 1, "a"), ("arm", 2, 5, 5), ("start", 0)):
            self.assertIsNotNone(refusal(world.act, act))
        world.act(("start", 1))
        self.assertIs(world.is_up(1), False)


class ListsTest(Case):
    def test_lists_may_be_changed(self):
        world = self.world(3, ("calm", 4), ("tick", 1))
        before = sight(world, 3)
        for values in (world.packets(), world.views(), world.history().events()):
            self.assertIs(type(values), list)
            values.reverse()
            values.append("spoiled")
            del values[:2]
        self.assertEqual(sight(world, 3), before)

    def test_the_members_and_disks_are_those_of_the_world(self):
        world = World(2)
        member, disk = world.member(0), world.disk(0)
        world.act(("cast", 0, "a"))
        self.assertEqual(member.log(), ((A, 1, "a"),))
        world.act(("crash", 0))
        world.act(("start", 0))
        self.assertEqual(disk_texts(disk), ("1=1", "2=2"))
        self.assertEqual((member.member(), world.member(0).member()), (A, (0, 2)))


if __name__ == "__main__":
    unittest.main()
