"""One life of a process: a member of a group (points 600 to 613)."""

from mustercall.change import Attempt, rest_of
from mustercall.errors import BadLetter, BadMember, BadPayload, BadView
from mustercall.letters import check_letter
from mustercall.lives import next_life
from mustercall.members import is_payload, is_process
from mustercall.order import Order
from mustercall.watch import Watch


class Member:
    """A member: it is told ticks and letters, and returns the letters that it sends."""

    def __init__(self, process, count, cells):
        if not is_process(count, process):
            raise BadMember()
        self._me = (process, next_life(cells))
        self._count = count
        self._watch = Watch(self._me)
        self._promised = (0, self._me)
        self._greatest_number = 0
        self._attempt = None
        self._waiting = []
        self._events = []
        self._enter((0, self._me), (self._me,), None)

    def member(self):
        """Return the member (process, life)."""
        return self._me

    def view(self):
        """Return the id and the members of the view."""
        return self._view_id, self._members

    def frozen(self):
        """Tell whether the member is frozen."""
        return self._frozen

    def log(self):
        """Return the messages that were delivered in the view."""
        return self._order.log()

    def waiting(self):
        """Return the payloads that wait for the next view."""
        return tuple(self._waiting)

    def events(self):
        """Return all that the member did, in order."""
        return list(self._events)

    def cast(self, payload):
        """Cast the payload, or let it wait, and return the letters."""
        if not is_payload(payload):
            raise BadPayload()
        if self._frozen:
            self._waiting.append(payload)
            return []
        index, delivered, letters = self._order.cast(payload)
        self._events.append(("cast", self._view_id, index, payload))
        self._deliver(delivered)
        return letters

    def tick(self):
        """Take a tick, and return the letters."""
        self._watch.tick()
        letters = self._here_letters()
        letters.extend(self._lead())
        if not self._frozen:
            letters.extend(self._order.again())
        letters.extend(self._install_letters_again())
        return letters

    def receive(self, letter):
        """Take a letter, and return the letters."""
        try:
            check_letter(self._count, self._me[0], letter)
        except BadLetter:
            return []
        if self._watch.knows(letter[1]):
            return []
        self._watch.heard(letter[1])
        for view_id in _view_ids_in(letter):
            self._see_number(view_id)
        takers = {
            "here": self._take_here,
            "cast": self._take_message,
            "order": self._take_message,
            "propose": self._take_propose,
            "state": self._take_state,
            "install": self._take_install,
            "higher": self._take_higher,
        }
        taker = takers[letter[0]]
        return taker(letter)

    def _enter(self, view_id, members, led_by):
        """Enter a view; led_by is its install letter if the member led its attempt, and None otherwise."""
        self._view_id = view_id
        self._members = members
        self._order = Order(self._me, view_id, members)
        self._led_by = led_by
        self._seen = {}
        self._has_strayed = False
        self._frozen = False
        self._events.append(("view", view_id, members))

    def _deliver(self, messages):
        for message in messages:
            self._events.append(("deliver", self._view_id, message))

    def _see_number(self, view_id):
        self._greatest_number = max(self._greatest_number, view_id[0])

    def _promise(self, view_id):
        self._promised = view_id
        self._frozen = True
        if self._attempt is not None and self._attempt.id != view_id:
            self._attempt = None

    def _here_letters(self):
        here = ("here", self._me, self._view_id, len(self._order.log()), self._promised)
        return [(process, here) for process in range(self._count) if process != self._me[0]]

    def _install_letters_again(self):
        if self._led_by is None:
            return []
        return [(member[0], self._led_by) for member in self._others(self._members) if member not in self._seen]

    def _others(self, members):
        return [member for member in members if member != self._me]

    def _lead(self):
        """Lead a change of views, as far as this member leads, and return the letters (point 606)."""
        reach = self._watch.reach()
        if self._attempt is not None and self._is_outdated(self._attempt, reach):
            self._attempt = None
        if reach[0] != self._me:
            return []
        if self._attempt is not None:
            return self._propose_letters(self._attempt.missing())
        if self._needs_change(reach):
            return self._begin(reach)
        return []

    def _is_outdated(self, attempt, reach):
        return attempt.members != reach or attempt.id[0] < self._greatest_number or reach[0] != self._me

    def _needs_change(self, reach):
        return self._members != reach or self._frozen or self._has_strayed

    def _begin(self, reach):
        """Begin an attempt with these members, and return the letters."""
        attempt_id = (self._greatest_number + 1, self._me)
        self._see_number(attempt_id)
        self._attempt = Attempt(attempt_id, reach)
        self._promise(attempt_id)
        self._attempt.add(self._state_letter())
        letters = self._propose_letters(self._others(reach))
        letters.extend(self._finish_if_ready())
        return letters

    def _propose_letters(self, receivers):
        propose = ("propose", self._me, self._attempt.id, self._attempt.members)
        return [(member[0], propose) for member in receivers]

    def _state_letter(self):
        """Return the state for the attempt that was promised."""
        return ("state", self._me, self._promised, self._view_id, self._order.log(), self._order.pending())

    def _finish_if_ready(self):
        attempt = self._attempt
        if not attempt.ready():
            return []
        self._attempt = None
        install = ("install", self._me, attempt.id, attempt.members, attempt.finals())
        letters = [(member[0], install) for member in self._others(attempt.members)]
        letters.extend(self._install(install))
        return letters

    def _install(self, letter):
        """Enter the view of the install letter if its finals fit, and return the letters."""
        _, sender, view_id, members, finals = letter
        rest = self._rest_in(finals)
        if rest is None:
            return []
        self._deliver(rest)
        self._enter(view_id, members, letter if sender == self._me else None)
        return self._cast_waiting()

    def _rest_in(self, finals):
        """Return what is left to deliver in the view, or None if the finals do not fit."""
        for view_id, final in finals:
            if view_id == self._view_id:
                try:
                    return rest_of(self._order.log(), final)
                except BadView:
                    return None
        return None

    def _cast_waiting(self):
        waiting = self._waiting
        self._waiting = []
        letters = []
        for payload in waiting:
            letters.extend(self.cast(payload))
        return letters

    def _take_here(self, letter):
        _, sender, view_id, count, promised = letter
        if sender in self._members and promised > self._view_id:
            self._has_strayed = True
        if view_id == self._view_id:
            self._seen[sender] = True
            self._order.heard(sender, count)
        return []

    def _take_message(self, letter):
        """Take a cast or an order letter."""
        if self._frozen:
            return []
        delivered, letters = self._order.take(letter)
        self._deliver(delivered)
        return letters

    def _take_propose(self, letter):
        sender, attempt_id = letter[1:3]
        if not self._is_for_me(letter):
            return []
        if attempt_id > self._promised and attempt_id[0] > self._view_id[0]:
            self._promise(attempt_id)
        # An attempt that was promised before is answered once more, because the first answer may be lost.
        if attempt_id == self._promised and self._frozen:
            return [(sender[0], self._state_letter())]
        if attempt_id != self._view_id:
            return [self._higher_letter(letter)]
        return []

    def _take_state(self, letter):
        if self._attempt is None:
            return []
        self._attempt.add(letter)
        return self._finish_if_ready()

    def _take_install(self, letter):
        view_id = letter[2]
        if not self._is_for_me(letter):
            return []
        if self._frozen and view_id == self._promised:
            return self._install(letter)
        if view_id < self._promised and view_id != self._view_id:
            return [self._higher_letter(letter)]
        return []

    def _take_higher(self, letter):
        if self._attempt is not None and self._attempt.id == letter[2]:
            self._attempt = None
        return []

    def _is_for_me(self, letter):
        """Tell whether the sender of a propose or an install letter leads its attempt, and this member takes part."""
        sender, attempt_id, members = letter[1:4]
        return sender == attempt_id[1] and self._me in members

    def _higher_letter(self, letter):
        sender, attempt_id = letter[1:3]
        return (sender[0], ("higher", self._me, attempt_id, self._promised))


def _view_ids_in(letter):
    """Return all view ids that stand in the letter (point 602)."""
    kind = letter[0]
    if kind == "here":
        return [letter[2], letter[4]]
    if kind in ("higher", "state"):
        return [letter[2], letter[3]]
    if kind == "install":
        return [letter[2]] + [view_id for view_id, _ in letter[4]]
    return [letter[2]]
