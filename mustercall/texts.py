"""Printable strings, integers, and the canonical texts of plain values (points 101 and 104 to 107)."""

from mustercall.errors import BadText
from mustercall.limits import MOST_DEPTH, MOST_DIGITS, MOST_LENGTH

# Point 101 leaves this one out, though it stands between the space and "~".
_REFUSED_CODE = 37


def is_printable(value):
    """Tell whether the value is a string of printable characters."""
    if not isinstance(value, str):
        return False
    for character in value:
        if not _is_printable_character(character):
            return False
    return True


def _is_printable_character(character):
    return " " <= character <= "~" and ord(character) != _REFUSED_CODE


def is_integer(value, least, greatest):
    """Tell whether the value is an integer from the least to the greatest one."""
    if not isinstance(value, int) or isinstance(value, bool):
        return False
    return least <= value <= greatest


def encode(value):
    """Return the canonical text of a plain value."""
    parts = []
    _write(value, MOST_DEPTH, MOST_LENGTH, parts)
    return "".join(parts)


def _write(value, depth, room, parts):
    """Append the text of a value of at most this depth to the parts, and return the room that is left."""
    if isinstance(value, tuple):
        return _write_tuple(value, depth, room, parts)
    if isinstance(value, str):
        return _put(_string_text(value), room, parts)
    return _put(_integer_text(value), room, parts)


def _write_tuple(items, depth, room, parts):
    if depth == 0:
        raise BadText()
    room = _put("(", room, parts)
    for item in items:
        room = _write(item, depth - 1, room, parts)
        room = _put(";", room, parts)
    return _put(")", room, parts)


def _put(piece, room, parts):
    # The room is checked at each piece: a few tuples that contain each other many times
    # may have a text that is too long to be built.
    if len(piece) > room:
        raise BadText()
    parts.append(piece)
    return room - len(piece)


def _string_text(value):
    if len(value) > MOST_LENGTH or not is_printable(value):
        raise BadText()
    return f"{len(value)}:" + value


def _integer_text(value):
    # The number is compared, because Python refuses to write out very long integers.
    greatest = int("9" * MOST_DIGITS)
    if not is_integer(value, -greatest, greatest):
        raise BadText()
    return str(value)


def decode(text):
    """Return the plain value with this canonical text."""
    if not isinstance(text, str) or len(text) > MOST_LENGTH or not is_printable(text):
        raise BadText()
    value, end = _read(text, 0, MOST_DEPTH)
    if end != len(text):
        raise BadText()
    return value


def _read(text, start, depth):
    """Return the value of at most this depth whose text begins at the index, and the index behind it."""
    if text[start:start + 1] == "(":
        return _read_tuple(text, start + 1, depth)
    number, end = _read_integer(text, start)
    if number < 0 or text[end:end + 1] != ":":
        return number, end
    return _read_characters(text, end + 1, number)


def _read_tuple(text, start, depth):
    if depth == 0:
        raise BadText()
    items = []
    place = start
    while text[place:place + 1] != ")":
        item, place = _read(text, place, depth - 1)
        if text[place:place + 1] != ";":
            raise BadText()
        items.append(item)
        place += 1
    return tuple(items), place + 1


def _read_characters(text, start, length):
    end = start + length
    if end > len(text):
        raise BadText()
    return text[start:end], end


def _read_integer(text, start):
    first_digit = start
    if text[start:start + 1] == "-":
        first_digit = start + 1
    end = _digits_end(text, first_digit)
    if not 1 <= end - first_digit <= MOST_DIGITS:
        raise BadText()
    number = int(text[start:end])
    # This refuses a leading zero and -0.
    if str(number) != text[start:end]:
        raise BadText()
    return number, end


def _digits_end(text, start):
    end = start
    while end < len(text) and "0" <= text[end] <= "9":
        end += 1
    return end
