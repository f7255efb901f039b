"""The acts of a world: their kinds, and the numbers in them (points 705 and 709)."""

from mustercall.errors import BadSchedule
from mustercall.limits import MOST_NUMBER
from mustercall.texts import is_integer

MOST_TICKS = 1000

# What stands behind the kind of each act.
_ITEMS = {
    "tick": ("ticks",),
    "calm": ("ticks",),
    "round": (),
    "deliver": ("position",),
    "lose": ("position",),
    "double": ("position",),
    "move": ("position",),
    "cast": ("process", "payload"),
    "part": ("groups",),
    "heal": (),
    "crash": ("process",),
    "start": ("process",),
    "arm": ("process", "count", "keep"),
}


def is_kind(value):
    """Tell whether the value is the kind of an act."""
    return isinstance(value, str) and value in _ITEMS


def item_names(kind):
    """Return the names of the items behind the kind of an act."""
    return _ITEMS[kind]


def check_act(act):
    """Refuse what is no act, and numbers that no act has."""
    if not isinstance(act, tuple) or len(act) == 0 or not is_kind(act[0]):
        raise BadSchedule(0, "act")
    names = item_names(act[0])
    if len(act) != 1 + len(names):
        raise BadSchedule(0, "act")
    for name, item in zip(names, act[1:]):
        if not _has_right_number(name, item):
            raise BadSchedule(0, "number")


def _has_right_number(name, item):
    if name == "ticks":
        return is_integer(item, 1, MOST_TICKS)
    if name in ("position", "count", "keep"):
        return is_integer(item, 0, MOST_NUMBER)
    return True
