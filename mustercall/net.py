"""The network: packets in flight, and the groups of processes that hear each other (points 701 to 703)."""

from mustercall.errors import BadSchedule
from mustercall.members import is_process
from mustercall.texts import is_integer


def is_groups(count, value):
    """Tell whether the value is a tuple of groups of processes, none of which occurs twice."""
    if not isinstance(value, tuple):
        return False
    found = {}
    for group in value:
        if not isinstance(group, tuple) or len(group) == 0:
            return False
        for process in group:
            if not is_process(count, process) or process in found:
                return False
            found[process] = True
    return True


class Net:
    """The network of a group of so many processes."""

    def __init__(self, count):
        self._count = count
        self._packets = []
        self._groups = (tuple(range(count)),)

    def send(self, sender, receiver, letter):
        """Append a packet."""
        self._packets.append((sender, receiver, letter))

    def take(self, position):
        """Take out the packet at the position, and return it."""
        self._check_position(position)
        return self._packets.pop(position)

    def double(self, position):
        """Append a second copy of the packet at the position."""
        self._check_position(position)
        self._packets.append(self._packets[position])

    def move(self, position):
        """Move the packet at the position to the end."""
        self._packets.append(self.take(position))

    def packets(self):
        """Return the packets in flight, in order."""
        return list(self._packets)

    def part(self, groups):
        """Part the network; the processes in none of the groups form one more group."""
        if not is_groups(self._count, groups):
            raise BadSchedule(0, "groups")
        named = [process for group in groups for process in group]
        rest = [process for process in range(self._count) if process not in named]
        parts = [tuple(sorted(group)) for group in groups]
        if len(rest) > 0:
            parts.append(tuple(rest))
        # No process stands in two groups, so this is the order of their first processes.
        self._groups = tuple(sorted(parts))

    def heal(self):
        """Put all processes into one group."""
        self.part(())

    def joined(self, one, other):
        """Tell whether the two processes are in the same group."""
        return any(one in group and other in group for group in self._groups)

    def groups(self):
        """Return all groups in ascending order."""
        return self._groups

    def _check_position(self, position):
        if not is_integer(position, 0, len(self._packets) - 1):
            raise BadSchedule(0, "position")
