"""Logs, pending casts and letters (points 113 to 118)."""

from mustercall.errors import BadLetter
from mustercall.limits import MOST_NUMBER
from mustercall.members import is_member, is_members, is_message, is_payload, is_process, is_view_id
from mustercall.texts import is_integer


def is_log(count, value):
    """Tell whether the value is a tuple of messages in which each sender has the indexes 1, 2, 3 and so on."""
    if not isinstance(value, tuple):
        return False
    last_indexes = {}
    for message in value:
        if not is_message(count, message):
            return False
        sender, index, _ = message
        if index != last_indexes.get(sender, 0) + 1:
            return False
        last_indexes[sender] = index
    return True


def last_index(log, member):
    """Return the index of the last message of the member in the log, or 0 if there is none."""
    last = 0
    for sender, index, _ in log:
        if sender == member:
            last = index
    return last


def is_pending(value):
    """Tell whether the value is a list of pending casts."""
    if not isinstance(value, tuple):
        return False
    for at, pair in enumerate(value):
        if not _is_pending_cast(pair):
            return False
        if at > 0 and pair[0] != value[at - 1][0] + 1:
            return False
    return True


def _is_pending_cast(value):
    if not isinstance(value, tuple) or len(value) != 2:
        return False
    return is_integer(value[0], 1, MOST_NUMBER) and is_payload(value[1])


def _is_here(count, letter):
    if len(letter) != 5:
        return False
    view_id, delivered, promised = letter[2:]
    if not is_integer(delivered, 0, MOST_NUMBER) or not is_view_id(count, promised):
        return False
    return promised >= view_id


def _is_cast(_, letter):
    return len(letter) == 5 and _is_place(letter[3]) and is_payload(letter[4])


def _is_order(count, letter):
    return len(letter) == 5 and _is_place(letter[3]) and is_message(count, letter[4])


def _is_propose(count, letter):
    return len(letter) == 4 and is_members(count, letter[3])


def _is_state(count, letter):
    if len(letter) != 6:
        return False
    view_id, log, pending = letter[3:]
    if not is_view_id(count, view_id) or not is_log(count, log) or not is_pending(pending):
        return False
    return len(pending) == 0 or pending[0][0] == last_index(log, letter[1]) + 1


def _is_install(count, letter):
    return len(letter) == 5 and is_members(count, letter[3]) and _is_finals(count, letter[4])


def _is_higher(count, letter):
    return len(letter) == 4 and is_view_id(count, letter[3])


def _is_place(value):
    return is_integer(value, 1, MOST_NUMBER)


def _is_finals(count, value):
    """Tell whether the value is a tuple of pairs of a view id and a log, in strictly ascending order of the ids."""
    if not isinstance(value, tuple):
        return False
    for at, pair in enumerate(value):
        if not _is_final(count, pair):
            return False
        if at > 0 and pair[0] <= value[at - 1][0]:
            return False
    return True


def _is_final(count, value):
    if not isinstance(value, tuple) or len(value) != 2:
        return False
    return is_view_id(count, value[0]) and is_log(count, value[1])


_CHECKS = {
    "here": _is_here,
    "cast": _is_cast,
    "order": _is_order,
    "propose": _is_propose,
    "state": _is_state,
    "install": _is_install,
    "higher": _is_higher,
}


def is_letter(count, value):
    """Tell whether the value is a letter of a group of so many processes."""
    if not isinstance(value, tuple) or len(value) < 3:
        return False
    kind = value[0]
    # Only a string is looked up, because other values may have no hash.
    if not isinstance(kind, str) or kind not in _CHECKS:
        return False
    # Each letter has its sender in the second place and a view id in the third one.
    if not is_member(count, value[1]) or not is_view_id(count, value[2]):
        return False
    is_rest = _CHECKS[kind]
    return is_rest(count, value)


def check_letter(count, receiver, letter):
    """Return the letter if a process of the group may receive it from another one."""
    if not is_letter(count, letter) or not is_process(count, receiver):
        raise BadLetter()
    if letter[1][0] == receiver:
        raise BadLetter()
    return letter
