"""The judge: which promise of point 5 the events of a history break (points 753 to 759)."""


def view_fault(events):
    """Return the first fault of a view that a member enters."""
    lists = {}
    numbers = {}
    for event in events:
        if event[0] != "view":
            continue
        member, view_id, members = event[2:]
        if member not in members:
            return ("stranger", member, view_id)
        if lists.setdefault(view_id, members) != members:
            return ("lists", member, view_id)
        if member in numbers and view_id[0] <= numbers[member]:
            return ("falls", member, view_id)
        numbers[member] = view_id[0]
    return None


def deliver_fault(events):
    """Return the first fault of a message that a member delivers."""
    views = {}
    casts = {}
    counts = {}
    for event in events:
        if event[0] == "view":
            views[event[2]] = event[3]
        elif event[0] == "cast":
            casts[event[2:]] = True
        elif event[0] == "deliver":
            member, view_id, message = event[2:]
            sender, index, payload = message
            if views.get(member) != view_id:
                return ("view", member, message)
            if (sender, view_id, index, payload) not in casts:
                return ("uncast", member, message)
            count = counts.get((member, view_id, sender), 0)
            if index != count + 1:
                return ("index", member, message)
            counts[(member, view_id, sender)] = count + 1
    return None


def cause_fault(events):
    """Return the first delivery that lacks what its sender had delivered before the cast."""
    logs, lengths = _logs_and_lengths(events)
    delivered = {}
    # How many of the first messages of the log of a sender a member is known to have delivered.
    passed = {}
    for event in events:
        if event[0] != "deliver":
            continue
        member, view_id, message = event[2:]
        sender, index, _ = message
        mine = delivered.setdefault((member, view_id), {})
        log = logs.get((sender, view_id), [])
        wanted = lengths.get((sender, view_id, index), 0)
        known = passed.get((member, sender, view_id), 0)
        while known < wanted and log[known] in mine:
            known += 1
        if known < wanted:
            return ("cause", member, message)
        passed[(member, sender, view_id)] = known
        mine[message] = True
    return None


def _logs_and_lengths(events):
    """Return what each member delivered with each id, and how long that was at its first cast with each index."""
    logs = {}
    lengths = {}
    for event in events:
        if event[0] == "deliver":
            member, view_id, message = event[2:]
            logs.setdefault((member, view_id), []).append(message)
        elif event[0] == "cast":
            member, view_id, index, _ = event[2:]
            lengths.setdefault((member, view_id, index), len(logs.get((member, view_id), [])))
    return logs, lengths


def together_fault(events):
    """Return the first member that delivered other messages in a view than one that took the same step."""
    views = {}
    logs = {}
    firsts = {}
    for event in events:
        if event[0] == "deliver":
            member, view_id, message = event[2:]
            logs.setdefault((member, view_id), []).append(message)
        elif event[0] == "view":
            member, view_id = event[2:4]
            if member in views:
                left = views[member]
                log = list(logs.get((member, left), []))
                first, first_log = firsts.setdefault((left, view_id), (member, log))
                if log != first_log:
                    return ("apart", first, member, view_id)
            views[member] = view_id
    return None


def own_fault(events):
    """Return the first member that leaves a view without a message that it cast there."""
    views = {}
    casts = {}
    delivered = {}
    for event in events:
        if event[0] == "cast":
            member, view_id, index, payload = event[2:]
            casts.setdefault((member, view_id), []).append((member, index, payload))
        elif event[0] == "deliver":
            delivered[event[2:]] = True
        elif event[0] == "view":
            member, view_id = event[2:4]
            left = views.get(member)
            for message in casts.get((member, left), []):
                if (member, left, message) not in delivered:
                    return ("own", member, left)
            views[member] = view_id
    return None


def judge(events):
    """Return the faults that the functions above find, in their order."""
    faults = [
        view_fault(events),
        deliver_fault(events),
        cause_fault(events),
        together_fault(events),
        own_fault(events),
    ]
    return [fault for fault in faults if fault is not None]
