"""The lives of a process, counted on its disk (points 205 to 207)."""

from mustercall.limits import MOST_NUMBER


def life_text(life):
    """Return the text of a life."""
    return f"{life}={life}"


def life_of(text):
    """Return the life with this text, or 0 if there is none."""
    if not isinstance(text, str):
        return 0
    digits = text.partition("=")[0]
    # The length is looked at first, because Python refuses to read very long integers.
    if len(digits) > len(str(MOST_NUMBER)) or not _are_digits(digits):
        return 0
    life = int(digits)
    # Comparing the texts refuses a leading zero, two numbers that differ, and anything behind them.
    if not 1 <= life <= MOST_NUMBER or life_text(life) != text:
        return 0
    return life


def _are_digits(text):
    return text.isascii() and text.isdecimal()


def next_life(cells):
    """Count a new life on the disk, and return it."""
    first = life_of(cells.read(0))
    second = life_of(cells.read(1))
    life = max(first, second) + 1
    # The cell with the greater number is left alone, so that a crash cannot spoil the last life.
    lesser = 0 if first <= second else 1
    cells.write(lesser, life_text(life))
    return life
