"""Members in the states that the tests of the member begin with."""

from mustercall.cells import Cells
from mustercall.lives import life_text
from mustercall.member import Member

A, B, C, D = (0, 1), (1, 1), (2, 1), (3, 1)
COUNT = 4


def new(member, count=COUNT):
    """Return this member, just created."""
    process, life = member
    cells = Cells()
    cells.write(0, life_text(life - 1))
    return Member(process, count, cells)


def here(sender, view_id=None, count=0, promised=None):
    view_id = view_id or (0, sender)
    return ("here", sender, view_id, count, promised or view_id)


def propose(view_id, *members):
    return ("propose", view_id[1], view_id, members)


def state(sender, attempt, view_id=None, log=(), pending=()):
    return ("state", sender, attempt, view_id or (0, sender), log, pending)


def install(view_id, members, *finals):
    return ("install", view_id[1], view_id, members, finals)


def empty_finals(members):
    """Return the empty finals of the first views of the members."""
    return [((0, member), ()) for member in members]


def to_each(letter, *members):
    return [(member[0], letter) for member in members]


def leading(me, *others):
    """Return the member, which has proposed the attempt (1, me) with the others."""
    member = new(me)
    for other in others:
        member.receive(here(other))
    member.tick()
    return member


def leader(me, *others):
    """Return the member in the view (1, me), which it has led; it has seen none of the others in it."""
    member = leading(me, *others)
    for other in others:
        member.receive(state(other, (1, me)))
    return member


def promised(me, view_id, *members):
    """Return the member, frozen in its first view, which has promised the view of these members."""
    member = new(me)
    member.receive(propose(view_id, *members))
    return member


def follower(me, view_id, *members):
    """Return the member in the view, which another one has led."""
    member = promised(me, view_id, *members)
    member.receive(install(view_id, members, *empty_finals(members)))
    return member


def sight(member):
    """Return all of a member that can be seen without a tick."""
    return (member.member(), member.view(), member.frozen(), member.log(), member.waiting(), member.events())


def future(member, ticks=7):
    """Tick the member, and return what it sends and what can be seen of it."""
    found = [sight(member)]
    for _ in range(ticks):
        found.append(member.tick())
        found.append(sight(member))
    return found


def heres(letters):
    return [pair for pair in letters if pair[1][0] == "here"]


def but_heres(letters):
    return [pair for pair in letters if pair[1][0] != "here"]
