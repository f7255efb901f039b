"""Members, view ids, payloads and messages (points 108 to 112)."""

from mustercall.limits import MOST_NUMBER, MOST_PAYLOAD, MOST_PROCESSES
from mustercall.texts import is_integer, is_printable


def is_process(count, value):
    """Tell whether the value is a process of a group of so many processes."""
    return is_integer(count, 1, MOST_PROCESSES) and is_integer(value, 0, count - 1)


def is_member(count, value):
    """Tell whether the value is a member of a group of so many processes."""
    if not isinstance(value, tuple) or len(value) != 2:
        return False
    return is_process(count, value[0]) and is_integer(value[1], 1, MOST_NUMBER)


def is_members(count, value):
    """Tell whether the value is the tuple of the members of a view."""
    if not isinstance(value, tuple) or len(value) == 0:
        return False
    # No process may occur twice, so ascending members have ascending processes.
    last_process = -1
    for member in value:
        if not is_member(count, member) or member[0] <= last_process:
            return False
        last_process = member[0]
    return True


def is_view_id(count, value):
    """Tell whether the value is the id of a view."""
    if not isinstance(value, tuple) or len(value) != 2:
        return False
    return is_integer(value[0], 0, MOST_NUMBER) and is_member(count, value[1])


def is_payload(value):
    """Tell whether the value is a payload."""
    return isinstance(value, str) and len(value) <= MOST_PAYLOAD and is_printable(value)


def is_message(count, value):
    """Tell whether the value is a message of a member of the group."""
    if not isinstance(value, tuple) or len(value) != 3:
        return False
    return is_member(count, value[0]) and is_integer(value[1], 1, MOST_NUMBER) and is_payload(value[2])
