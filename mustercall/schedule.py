"""Schedules: the acts of a world, written in lines (points 711 to 713)."""

from mustercall.acts import check_act, is_kind, item_names
from mustercall.errors import BadSchedule, BadText
from mustercall.texts import decode, encode, is_integer, is_printable
from mustercall.world import World

_MOST_DIGITS = 12
_GREATEST = 10 ** 12 - 1

# The items that are written as canonical texts.
_TEXTS = ("payload", "groups")


def parse_schedule(text):
    """Return the number of the group line, the count in it, and the pairs (line, act)."""
    group_line = 0
    count = 0
    acts = []
    for number, line in enumerate(text.split("\n"), start=1):
        if line == "" or line.startswith("#"):
            continue
        words = _read_line(number, line, group_line == 0)
        if group_line == 0:
            group_line = number
            count = words[1]
        else:
            acts.append((number, words))
    if group_line == 0:
        raise BadSchedule(0, "group")
    return group_line, count, acts


def act_line(act):
    """Return the line of an act."""
    try:
        check_act(act)
    except BadSchedule:
        raise BadSchedule(0, "act") from None
    words = [act[0]]
    for name, item in zip(item_names(act[0]), act[1:]):
        words.append(_word_of(name, item))
    return " ".join(words)


def run_schedule(text):
    """Run a schedule, and return the world."""
    group_line, count, acts = parse_schedule(text)
    try:
        world = World(count)
    except BadSchedule as refused:
        raise BadSchedule(group_line, refused.reason) from None
    for number, act in acts:
        _perform(world, number, act)
    return world


def _perform(world, number, act):
    try:
        world.act(act)
    except BadSchedule as refused:
        raise BadSchedule(number, refused.reason) from None


def _read_line(number, line, is_first):
    """Return the tuple of the first word of the line and the values of the others."""
    if not is_printable(line):
        raise BadSchedule(number, "character")
    verb = line.partition(" ")[0]
    if (verb == "group") != is_first:
        raise BadSchedule(number, "group")
    if not is_first and not is_kind(verb):
        raise BadSchedule(number, "verb")
    names = ("count",) if is_first else item_names(verb)
    words = _split(line, names)
    if len(words) != 1 + len(names):
        raise BadSchedule(number, "count")
    values = [verb]
    # The only text of a line is its last word, so going from left to right checks all integers first.
    for name, word in zip(names, words[1:]):
        values.append(_read_word(number, name, word))
    return tuple(values)


def _split(line, names):
    """Return the words of the line; a text is all that stands behind the space before it."""
    if len(names) > 0 and names[-1] in _TEXTS:
        return line.split(" ", len(names))
    return line.split(" ")


def _read_word(number, name, word):
    if name in _TEXTS:
        return _read_text(number, name, word)
    if not _is_number(word):
        raise BadSchedule(number, "number")
    return int(word)


def _read_text(number, name, word):
    try:
        value = decode(word)
    except BadText:
        raise BadSchedule(number, "text") from None
    if not _is_text_of(name, value):
        raise BadSchedule(number, "text")
    return value


def _is_number(word):
    if not word.isdecimal() or len(word) > _MOST_DIGITS:
        return False
    return word == "0" or not word.startswith("0")


def _is_text_of(name, value):
    """Tell whether the value is a string for a payload, or a tuple for groups."""
    return isinstance(value, str) if name == "payload" else isinstance(value, tuple)


def _word_of(name, item):
    """Return the word of an item of an act."""
    if name not in _TEXTS:
        if not is_integer(item, 0, _GREATEST):
            raise BadSchedule(0, "act")
        return str(item)
    if not _is_text_of(name, item):
        raise BadSchedule(0, "act")
    try:
        return encode(item)
    except BadText:
        raise BadSchedule(0, "act") from None
