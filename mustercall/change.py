"""Changing views: the attempt of a leader, and what is left to deliver (points 500 to 506)."""

from mustercall.errors import BadView
from mustercall.letters import last_index


class Attempt:
    """The states of the members that take part in a change of views."""

    def __init__(self, view_id, members):
        self.id = view_id
        self.members = members
        self._states = {}

    def add(self, letter):
        """Take a state letter, and tell whether it counted."""
        sender = letter[1]
        if letter[2] != self.id or sender not in self.members or sender in self._states:
            return False
        self._states[sender] = letter
        return True

    def missing(self):
        """Return the members without a state, in ascending order."""
        return [member for member in self.members if member not in self._states]

    def ready(self):
        """Tell whether there is a state of each member."""
        return len(self.missing()) == 0

    def finals(self):
        """Return the pairs of the id of an old view and its final, in ascending order of the ids."""
        if not self.ready():
            raise BadView()
        finals = []
        for view_id in sorted({state[3] for state in self._states.values()}):
            finals.append((view_id, self._final(view_id)))
        return tuple(finals)

    def _final(self, view_id):
        states = [self._states[member] for member in self.members if self._states[member][3] == view_id]
        longest = max([state[4] for state in states], key=len)
        rest = []
        for state in states:
            sender, pending = state[1], state[5]
            last = last_index(longest, sender)
            rest.extend([(sender, index, payload) for index, payload in pending if index > last])
        return longest + tuple(rest)


def rest_of(log, final):
    """Return the messages of the final behind the log."""
    if final[:len(log)] != log:
        raise BadView()
    return list(final[len(log):])
