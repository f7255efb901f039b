"""A world: members, their disks and a network, which run step by step (points 700 and 704 to 710)."""

from mustercall.acts import check_act
from mustercall.cells import Cells
from mustercall.errors import BadSchedule, DiskCrashed
from mustercall.history import History
from mustercall.limits import MOST_PROCESSES
from mustercall.member import Member
from mustercall.members import is_payload, is_process
from mustercall.net import Net
from mustercall.texts import is_integer


class World:
    """A group of so many processes, all of which are up at first."""

    def __init__(self, count):
        if not is_integer(count, 1, MOST_PROCESSES):
            raise BadSchedule(0, "processes")
        self._count = count
        self._time = 0
        self._net = Net(count)
        self._history = History()
        self._disks = [Cells() for _ in range(count)]
        # The members of the processes that are up, and how many of their events are in the history.
        self._members = {}
        self._noted = {}
        for process in range(count):
            self._start(process)

    def act(self, step):
        """Perform an act."""
        check_act(step)
        self._check_processes(step)
        actions = {
            "tick": self._tick,
            "calm": self._calm,
            "round": self._deliver_all,
            "deliver": self._deliver,
            "lose": self._net.take,
            "double": self._net.double,
            "move": self._net.move,
            "cast": self._cast,
            "part": self._net.part,
            "heal": self._net.heal,
            "crash": self._crash,
            "start": self._start,
            "arm": self._arm,
        }
        action = actions[step[0]]
        items = step[1:]
        action(*items)

    def time(self):
        """Return the time."""
        return self._time

    def packets(self):
        """Return the packets in flight, in order."""
        return self._net.packets()

    def groups(self):
        """Return the groups of the network, in ascending order."""
        return self._net.groups()

    def is_up(self, process):
        """Tell whether the process is up."""
        self._check_process(process)
        return process in self._members

    def member(self, process):
        """Return the member of a process that is up."""
        if not self.is_up(process):
            raise BadSchedule(0, "state")
        return self._members[process]

    def disk(self, process):
        """Return the disk of the process."""
        self._check_process(process)
        return self._disks[process]

    def views(self):
        """Return (member, id, members, frozen) of all processes that are up, in ascending order."""
        views = []
        for process in sorted(self._members):
            member = self._members[process]
            view_id, members = member.view()
            views.append((member.member(), view_id, members, member.frozen()))
        return views

    def history(self):
        """Return a history with all that has happened."""
        history = History()
        for event in self._history.events():
            history.add(event)
        return history

    def _check_process(self, process):
        if not is_process(self._count, process):
            raise BadSchedule(0, "process")

    def _check_processes(self, step):
        """Refuse an act whose process, payload or state is not the right one; the network checks the others."""
        kind = step[0]
        if kind not in ("cast", "crash", "start", "arm"):
            return
        self._check_process(step[1])
        if kind == "cast" and not is_payload(step[2]):
            raise BadSchedule(0, "payload")
        if self.is_up(step[1]) != (kind in ("cast", "crash")):
            raise BadSchedule(0, "state")

    def _tick(self, count):
        for _ in range(count):
            self._time += 1
            for process in sorted(self._members):
                letters = self._members[process].tick()
                self._follow(process, letters)

    def _calm(self, count):
        for _ in range(count):
            self._tick(1)
            self._deliver_all()

    def _deliver_all(self):
        for _ in range(len(self._net.packets())):
            self._deliver(0)

    def _deliver(self, position):
        sender, receiver, letter = self._net.take(position)
        if receiver in self._members and self._net.joined(sender, receiver):
            letters = self._members[receiver].receive(letter)
            self._follow(receiver, letters)

    def _cast(self, process, payload):
        letters = self._members[process].cast(payload)
        self._follow(process, letters)

    def _crash(self, process):
        del self._members[process]
        self._disks[process].crash()
        self._history.add(("crash", self._time, process))

    def _start(self, process):
        disk = self._disks[process]
        try:
            member = Member(process, self._count, disk)
        except DiskCrashed:
            disk.crash()
            return
        self._members[process] = member
        self._noted[process] = 0
        self._follow(process, [])

    def _arm(self, process, count, keep):
        self._disks[process].arm(count, keep)

    def _follow(self, process, letters):
        """Note what the member did since the last call, and send its letters."""
        member = self._members[process]
        events = member.events()
        for event in events[self._noted[process]:]:
            self._history.add((event[0], self._time, member.member()) + event[1:])
        self._noted[process] = len(events)
        for receiver, letter in letters:
            self._net.send(process, receiver, letter)
