"""Worlds in the tests: what can be seen of one, and acts by chance."""

from mustercall.errors import BadSchedule

TICKS = ("tick", "calm")
AT_POSITION = ("deliver", "lose", "double", "move")


def disk_texts(disk):
    return disk.read(0), disk.read(1)


def sight(world, count):
    """Return all that can be seen of a world of so many processes."""
    up = [process for process in range(count) if world.is_up(process)]
    members = [world.member(process) for process in up]
    return {
        "time": world.time(),
        "packets": world.packets(),
        "groups": world.groups(),
        "up": up,
        "views": world.views(),
        "members": [(member.member(), member.view(), member.frozen(), member.log(), member.waiting(), member.events())
                    for member in members],
        "disks": [disk_texts(world.disk(process)) for process in range(count)],
        "history": world.history().events(),
    }


def groups_by_chance(chance, count):
    """Return groups of some of the processes."""
    groups = {}
    for process in chance.sample(range(count), count):
        groups.setdefault(chance.randrange(4), []).append(process)
    # The group 0 is not named.
    return tuple(tuple(group) for name, group in groups.items() if name > 0)


def act_by_chance(chance, count, packets):
    """Return an act with right items, which may still be impossible."""
    kind = chance.choice(
        ("tick",) * 6 + ("round",) * 5 + ("calm", "part", "heal") + ("deliver",) * 14 + ("lose",) * 2 + ("double",) * 2
        + ("move",) * 4 + ("cast",) * 6 + ("crash",) + ("start",) * 3 + ("arm",) * 2)
    if kind in TICKS:
        return (kind, chance.choice((1, 1, 1, 2, 7)) if kind == "tick" else chance.choice((1, 3)))
    if kind in AT_POSITION:
        return (kind, chance.choice((0, chance.randrange(packets + 1))))
    process = chance.randrange(count)
    if kind == "cast":
        return (kind, process, chance.choice(("", "a", "it is", "# b;", "x" * 30)))
    if kind == "part":
        return (kind, groups_by_chance(chance, count))
    if kind == "arm":
        return (kind, process, chance.randrange(2), chance.randrange(7))
    return (kind, process) if kind in ("crash", "start") else (kind,)


def is_possible(world, act):
    """Tell whether an act with right items is possible now."""
    if act[0] in AT_POSITION:
        return act[1] < len(world.packets())
    if act[0] in ("cast", "crash"):
        return world.is_up(act[1])
    return act[0] not in ("start", "arm") or not world.is_up(act[1])


def run_by_chance(world, chance, count, steps):
    """Perform so many acts by chance, and return them."""
    acts = []
    while len(acts) < steps:
        act = act_by_chance(chance, count, len(world.packets()))
        if is_possible(world, act):
            world.act(act)
            acts.append(act)
    return acts


def single_acts(world, act):
    """Return what the act does, as ticks of 1 and deliveries; the world is the one before the act."""
    if act[0] == "tick":
        return [("tick", 1)] * act[1]
    if act[0] == "round":
        return [("deliver", 0)] * len(world.packets())
    return [act]


def start_all(world, count):
    """Start all processes that are down."""
    for process in range(count):
        while not world.is_up(process):
            world.act(("start", process))


def lose_all(world):
    for _ in world.packets():
        world.act(("lose", 0))


def refusal(function, *arguments):
    """Return the line and the reason of the BadSchedule that the call raises, or None."""
    try:
        function(*arguments)
    except BadSchedule as error:
        return error.line, error.reason
    return None
