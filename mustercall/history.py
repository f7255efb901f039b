"""What the members of a run did, in order (points 750 to 752)."""

from mustercall.errors import BadSchedule
from mustercall.limits import MOST_NUMBER
from mustercall.texts import is_integer

# How many items an event of each kind has.
_LENGTHS = {"view": 5, "cast": 6, "deliver": 5, "crash": 3}


def _is_event(value):
    """Tell whether the value has the kind, the number of items and the time of an event."""
    if not isinstance(value, tuple) or len(value) == 0:
        return False
    kind = value[0]
    # Only a string is looked up, because other values may have no hash.
    if not isinstance(kind, str) or kind not in _LENGTHS or len(value) != _LENGTHS[kind]:
        return False
    return is_integer(value[1], 0, MOST_NUMBER)


class History:
    """The events of a run; their times never fall."""

    def __init__(self):
        self._events = []

    def add(self, event):
        """Append an event."""
        if not _is_event(event):
            raise BadSchedule(0, "event")
        if len(self._events) > 0 and event[1] < self._events[-1][1]:
            raise BadSchedule(0, "time")
        self._events.append(event)

    def events(self):
        """Return the events, in order."""
        return list(self._events)
