"""The order of the messages of one view (points 400 to 409)."""

from mustercall.errors import BadView

WINDOW = 16


class Order:
    """What one member knows of the messages of one view."""

    def __init__(self, me, view_id, members):
        if me not in members:
            raise BadView()
        self._me = me
        self._view_id = view_id
        self._members = members
        self._founder = members[0]
        self._log = []
        self._last_indexes = {}
        self._casts = 0
        self._pending = []
        # Messages for places that the log has not reached, by their place.
        self._kept = {}
        # How many messages each other member has delivered; only the founder asks for it.
        self._told = {}

    def cast(self, payload):
        """Cast the payload, and return its index, the messages that are delivered, and the letters."""
        self._casts += 1
        index = self._casts
        if self._me == self._founder:
            delivered, letters = self._decide((self._me, index, payload))
            return index, delivered, letters
        self._pending.append((index, payload))
        return index, [], [self._cast_letter(index, payload)]

    def take(self, letter):
        """Take a cast or an order letter, and return the messages that are delivered, and the letters."""
        if letter[0] == "cast":
            return self._take_cast(letter)
        return self._take_order(letter), []

    def heard(self, member, count):
        """Tell how many messages the member has delivered."""
        if member in self._members:
            self._told[member] = max(count, self._told.get(member, 0))

    def again(self):
        """Return the letters that are sent again at a tick."""
        if self._me != self._founder:
            return [self._cast_letter(index, payload) for index, payload in self._pending[:WINDOW]]
        letters = []
        for member in self._others():
            letters.extend(self._letters_behind(member))
        return letters

    def log(self):
        """Return the messages of the log."""
        return tuple(self._log)

    def pending(self):
        """Return the pairs (index, payload) of the pending casts."""
        return tuple(self._pending)

    def _take_cast(self, letter):
        _, sender, view_id, index, payload = letter
        if self._me != self._founder or view_id != self._view_id or sender not in self._others():
            return [], []
        if index != self._last_indexes.get(sender, 0) + 1:
            return [], []
        return self._decide((sender, index, payload))

    def _decide(self, message):
        """Give the message the next place, and return the messages that are delivered, and the letters."""
        self._deliver(message)
        place = len(self._log)
        return [message], [self._order_letter(member, place, message) for member in self._others()]

    def _take_order(self, letter):
        _, sender, view_id, place, message = letter
        if self._me == self._founder or sender != self._founder or view_id != self._view_id:
            return []
        if place > len(self._log) and place not in self._kept:
            self._kept[place] = message
        return self._deliver_kept()

    def _deliver_kept(self):
        delivered = []
        while len(self._log) + 1 in self._kept:
            message = self._kept.pop(len(self._log) + 1)
            self._deliver(message)
            delivered.append(message)
        return delivered

    def _deliver(self, message):
        sender, index, _ = message
        self._log.append(message)
        self._last_indexes[sender] = index
        if sender == self._me:
            self._pending = [pair for pair in self._pending if pair[0] != index]

    def _others(self):
        return [member for member in self._members if member != self._me]

    def _letters_behind(self, member):
        """Return the order letters of the messages that the member is not known to have delivered."""
        told = self._told.get(member, 0)
        behind = self._log[told:told + WINDOW]
        return [self._order_letter(member, place, message) for place, message in enumerate(behind, start=told + 1)]

    def _cast_letter(self, index, payload):
        return (self._founder[0], ("cast", self._me, self._view_id, index, payload))

    def _order_letter(self, member, place, message):
        return (member[0], ("order", self._me, self._view_id, place, message))
