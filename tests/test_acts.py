"""Points 705 and 709: the kinds of acts, and the numbers in them."""

import unittest

from mustercall.acts import MOST_TICKS, check_act
from mustercall.errors import BadSchedule
from mustercall.limits import MOST_NUMBER
from odd import Stubborn, not_plain

# An act of each kind with right items, and the places of the numbers in it that may be 0.
ACTS = {
    "tick": (("tick", 1), ()),
    "calm": (("calm", 1), ()),
    "round": (("round",), ()),
    "deliver": (("deliver", 0), (1,)),
    "lose": (("lose", 0), (1,)),
    "double": (("double", 0), (1,)),
    "move": (("move", 0), (1,)),
    "cast": (("cast", 0, "a"), ()),
    "part": (("part", ((0, 1), (2,))), ()),
    "heal": (("heal",), ()),
    "crash": (("crash", 0), ()),
    "start": (("start", 0), ()),
    "arm": (("arm", 0, 0, 0), (2, 3)),
}


def with_item(act, place, item):
    return act[:place] + (item,) + act[place + 1:]


def no_numbers():
    """Return values that are no numbers of acts."""
    values = [value for _, value in not_plain()]
    return values + ["", "1", "0", (), (1,), -1, -(10 ** 30), MOST_NUMBER + 1, 10 ** 30, Stubborn()]


class ActTest(unittest.TestCase):
    def assert_refused(self, reason, act):
        with self.assertRaises(BadSchedule) as caught:
            check_act(act)
        self.assertIs(type(caught.exception), BadSchedule)
        self.assertEqual((caught.exception.line, caught.exception.reason), (0, reason))

    def test_most_ticks(self):
        self.assertEqual(MOST_TICKS, 1000)

    def test_right_acts(self):
        for act, _ in ACTS.values():
            self.assertIsNone(check_act(act))

    def test_kinds_that_are_none(self):
        for kind in ("", "Tick", "ticks", " tick", "group", "view", "here", b"tick", 0, None, True, ("tick",), ["tick"],
                     {"tick": 1}, Stubborn()):
            for rest in ((), (1,), (0, "a"), (0, 0, 0)):
                self.assert_refused("act", (kind,) + rest)

    def test_values_that_are_no_tuples(self):
        for _, value in not_plain():
            self.assert_refused("act", value)
        for value in ("tick", "round", "", 0, ["tick", 1], ["round"], (), {"round": 1}, Stubborn()):
            self.assert_refused("act", value)

    def test_numbers_of_items(self):
        for act, _ in ACTS.values():
            self.assert_refused("act", act + (0,))
            self.assert_refused("act", act + ("a", 0))
            for length in range(1, len(act)):
                self.assert_refused("act", act[:length])

    def test_the_number_of_items_comes_before_the_numbers(self):
        for act, places in ACTS.values():
            for place in places:
                self.assert_refused("act", with_item(act, place, -1) + (0,))
        self.assert_refused("act", ("tick", 0, 0))
        self.assert_refused("act", ("ticks", 0))

    def test_counts_of_ticks(self):
        for kind in ("tick", "calm"):
            for count in (1, 2, 999, MOST_TICKS):
                self.assertIsNone(check_act((kind, count)))
            for count in [0, MOST_TICKS + 1, MOST_NUMBER] + no_numbers():
                self.assert_refused("number", (kind, count))

    def test_other_numbers(self):
        for act, places in ACTS.values():
            for place in places:
                for number in (0, 1, MOST_TICKS + 1, MOST_NUMBER):
                    self.assertIsNone(check_act(with_item(act, place, number)))
                for number in no_numbers():
                    self.assert_refused("number", with_item(act, place, number))

    def test_both_numbers_of_an_armed_disk(self):
        self.assertIsNone(check_act(("arm", 0, MOST_NUMBER, MOST_NUMBER)))
        self.assert_refused("number", ("arm", 0, -1, -1))

    def test_processes_payloads_and_groups_are_not_checked(self):
        values = [value for _, value in not_plain()] + [-1, 99, "", "a" * 31, (), ((0, 0),), Stubborn()]
        for value in values:
            for act in (("cast", value, "a"), ("cast", 0, value), ("part", value), ("crash", value), ("start", value),
                        ("arm", value, 0, 0)):
                self.assertIsNone(check_act(act))


if __name__ == "__main__":
    unittest.main()
