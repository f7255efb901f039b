"""The disk of a process (points 201 to 204)."""

from mustercall.errors import DiskCrashed, DiskError
from mustercall.texts import is_integer


class Cells:
    """A disk with two cells, which can be armed to crash at a write."""

    def __init__(self):
        self._texts = ["", ""]
        self._has_crashed = False
        # How many writes pass before the one that crashes, or None if the disk is not armed.
        self._passing = None
        self._keep = 0

    def read(self, cell):
        """Return the text of the cell."""
        self._check(cell, "")
        return self._texts[cell]

    def write(self, cell, text):
        """Replace the text of the cell."""
        self._check(cell, text)
        if self._passing == 0:
            self._has_crashed = True
            self._texts[cell] = text[:self._keep] + self._texts[cell][self._keep:]
            raise DiskCrashed()
        if self._passing is not None:
            self._passing -= 1
        self._texts[cell] = text

    def arm(self, count, keep):
        """Let so many writes pass, and the next one crash with so many characters of its text."""
        self._passing = count
        self._keep = keep

    def crash(self):
        """Start the disk again, disarmed."""
        self._has_crashed = False
        self._passing = None

    def _check(self, cell, text):
        if self._has_crashed:
            raise DiskCrashed()
        if not is_integer(cell, 0, 1) or not isinstance(text, str):
            raise DiskError()
