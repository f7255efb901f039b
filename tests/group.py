"""A group of members whose letters the test loses, doubles, delays and delivers as it wants."""

from mustercall.cells import Cells
from mustercall.errors import DiskCrashed
from mustercall.letters import is_letter
from mustercall.member import Member
from mustercall.texts import decode, encode


class Group:
    """The members of a group, all that were ever created, and the letters between them."""

    def __init__(self, case, count, chance):
        self.case = case
        self.count = count
        self.chance = chance
        self.cells = [Cells() for _ in range(count)]
        self.up = {}
        self.members = []
        # Packets (stamp, sender, receiver, letter): the stamp is the number of ticks before the packet was sent.
        self.packets = []
        self.ticks = 0
        self.part_of = [0] * count
        self.entered = {}
        self.checked = set()
        for process in range(count):
            self.start(process)

    def start(self, process):
        try:
            member = Member(process, self.count, self.cells[process])
        except DiskCrashed:
            self.cells[process].crash()
            return
        self.up[process] = member
        self.members.append(member)
        self.follow(process, [])

    def crash(self, process):
        del self.up[process]
        self.cells[process].crash()

    def cast(self, process, payload):
        self.follow(process, self.up[process].cast(payload))

    def tick(self, processes):
        self.ticks += 1
        for process in processes:
            self.follow(process, self.up[process].tick())

    def deliver(self, at):
        """Deliver the packet, unless its receiver is down or parted from its sender."""
        _, sender, receiver, letter = self.packets.pop(at)
        if receiver in self.up and self.part_of[sender] == self.part_of[receiver]:
            self.follow(receiver, self.up[receiver].receive(letter))

    def follow(self, process, letters):
        member = self.up[process]
        view_id, members = member.view()
        # Point 613: the founder is the first member, and enters the view first.
        if view_id not in self.entered:
            self.entered[view_id] = member.member()
            self.case.assertEqual((view_id[1], members[0]), (member.member(),) * 2)
        for receiver, letter in letters:
            self.check_letter(letter)
            self.case.assertEqual(letter[1], member.member())
            self.case.assertNotEqual(receiver, process)
            self.packets.append((self.ticks, process, receiver, letter))

    def check_letter(self, letter):
        if letter in self.checked:
            return
        self.checked.add(letter)
        self.case.assertTrue(is_letter(self.count, letter), letter)
        # Point 119: a letter is a plain value, and those of such runs are not too long.
        self.case.assertEqual(decode(encode(letter)), letter)

    def heads(self, keep):
        """Return the positions of the packets that are the oldest ones of their sender to their receiver."""
        heads = {}
        for at, (_, sender, receiver, _) in enumerate(self.packets):
            if keep(sender, receiver):
                heads.setdefault((sender, receiver), at)
        return list(heads.values())

    def be_timely(self):
        """Deliver as a timely network does between two ticks (point 6)."""
        def joined(sender, receiver):
            return self.part_of[sender] == self.part_of[receiver]
        self.packets = [packet for packet in self.packets if joined(packet[1], packet[2])]
        while self.packets:
            late = any(packet[0] < self.ticks for packet in self.packets)
            if not late and self.chance.random() < 0.05:
                break
            heads = self.heads(joined)
            if not heads:
                break
            self.deliver(self.chance.choice(heads))

    def check(self):
        """Fail unless all that the members did keeps the promises of point 5."""
        check_promises(self.case, [(member.member(), member.events()) for member in self.members])
        for member in self.members:
            self.case.assertEqual(member.log(), stays_of(member.events())[-1].log())


class Stay:
    """What a member did in one view."""

    def __init__(self, view_id, members):
        self.view_id = view_id
        self.members = members
        self.delivered = []
        # The casts (index, payload), and what had been delivered before each of them.
        self.casts = []

    def log(self):
        return tuple(self.delivered)


def stays_of(events):
    """Return the stays of a member in its views."""
    stays = []
    for kind, view_id, *rest in events:
        if kind == "view":
            stays.append(Stay(view_id, rest[0]))
            continue
        assert view_id == stays[-1].view_id, "an event in another view"
        if kind == "cast":
            stays[-1].casts.append(((rest[0], rest[1]), stays[-1].log()))
        else:
            assert kind == "deliver"
            stays[-1].delivered.append(rest[0])
    return stays


def check_promises(case, runs):
    """Fail unless the pairs (member, events) keep the promises of point 5."""
    names = [name for name, _ in runs]
    case.assertEqual(len(set(names)), len(names), "a life is used twice")
    stays = {name: stays_of(events) for name, events in runs}
    check_views(case, stays)
    check_steps(case, stays)
    casts = {}
    for name, each in stays.items():
        for stay in each:
            for (index, payload), before in stay.casts:
                casts[stay.view_id, (name, index, payload)] = before
    for name, each in stays.items():
        for stay in each:
            check_messages(case, stay, casts)


def check_views(case, stays):
    lists = {}
    for name, each in stays.items():
        numbers = [stay.view_id[0] for stay in each]
        case.assertEqual(numbers, sorted(set(numbers)), "the numbers of the views rise")
        for stay in each:
            case.assertIn(name, stay.members)
            case.assertEqual(lists.setdefault(stay.view_id, stay.members), stay.members, "one list of members")


def check_steps(case, stays):
    logs = {}
    for name, each in stays.items():
        for old, new in zip(each, each[1:]):
            log = logs.setdefault((old.view_id, new.view_id), old.log())
            case.assertEqual(log, old.log(), "members that take the same step delivered the same")
            own = [message[1:] for message in old.delivered if message[0] == name]
            case.assertEqual(own, [cast for cast, _ in old.casts], "own casts are delivered")


def check_messages(case, stay, casts):
    case.assertEqual([index for (index, _), _ in stay.casts], list(range(1, len(stay.casts) + 1)))
    last = {}
    for at, message in enumerate(stay.delivered):
        sender, index, _ = message
        case.assertEqual(index, last.get(sender, 0) + 1, "the indexes are in order")
        last[sender] = index
        case.assertIn((stay.view_id, message), casts, "each message was cast")
        case.assertLessEqual(set(casts[stay.view_id, message]), set(stay.delivered[:at]), "causes come first")
