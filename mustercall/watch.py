"""Which other members can be heard (points 300 to 302)."""

SILENCE = 4


class Watch:
    """The watch of one member."""

    def __init__(self, me):
        self._me = me
        # Of each other process that was heard: its greatest life, and the ticks since a letter of this life.
        self._lives = {}
        self._ages = {}

    def heard(self, member):
        """Tell that a letter of the member came."""
        process, life = member
        if process == self._me[0] or self.knows(member):
            return
        self._lives[process] = life
        self._ages[process] = 0

    def knows(self, member):
        """Tell whether a greater life of the process of the member was heard."""
        process, life = member
        return self._lives.get(process, 0) > life

    def tick(self):
        """Tell a tick."""
        for process in list(self._ages):
            self._ages[process] += 1

    def reach(self):
        """Return the member and all other members that can be heard, in ascending order."""
        heard = [(process, self._lives[process]) for process, age in self._ages.items() if age <= SILENCE]
        return tuple(sorted([self._me] + heard))
