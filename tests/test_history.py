"""Points 751 and 752: histories."""

import unittest

from mustercall.errors import BadSchedule
from mustercall.history import History
from mustercall.limits import MOST_NUMBER
from odd import Stubborn, not_plain

A = (0, 1)
ID = (0, A)
VIEW = ("view", 0, A, ID, (A,))
CAST = ("cast", 0, A, ID, 1, "a")
DELIVER = ("deliver", 0, A, ID, (A, 1, "a"))
CRASH = ("crash", 0, 0)
EVENTS = (VIEW, CAST, DELIVER, CRASH)


def at(time, event):
    return (event[0], time) + event[2:]


class HistoryTest(unittest.TestCase):
    def assert_refused(self, reason, history, event):
        before = history.events()
        with self.assertRaises(BadSchedule) as caught:
            history.add(event)
        self.assertIs(type(caught.exception), BadSchedule)
        self.assertEqual((caught.exception.line, caught.exception.reason), (0, reason))
        self.assertEqual(history.events(), before)

    def test_a_new_history(self):
        self.assertEqual(History().events(), [])

    def test_each_kind_of_event(self):
        history = History()
        for count, event in enumerate(EVENTS, start=1):
            self.assertIsNone(history.add(event))
            self.assertEqual(history.events(), list(EVENTS[:count]))

    def test_times(self):
        history = History()
        events = [at(time, event) for time in (0, 0, 1, 5, 5, 1000, MOST_NUMBER, MOST_NUMBER) for event in EVENTS]
        for event in events:
            history.add(event)
        self.assertEqual(history.events(), events)
        other = History()
        other.add(at(7, CRASH))
        self.assertEqual(other.events(), [at(7, CRASH)])

    def test_times_that_fall(self):
        history = History()
        history.add(at(5, CAST))
        for event in EVENTS:
            for time in (0, 1, 4):
                self.assert_refused("time", history, at(time, event))
        history.add(at(6, CRASH))
        self.assert_refused("time", history, at(5, VIEW))
        history.add(at(6, VIEW))
        history.add(at(MOST_NUMBER, VIEW))
        self.assert_refused("time", history, at(MOST_NUMBER - 1, VIEW))

    def test_times_that_are_none(self):
        times = [value for _, value in not_plain()]
        times += [-1, -(10 ** 30), MOST_NUMBER + 1, 10 ** 30, "0", "", (), (0,), Stubborn()]
        for history in (History(), self.late()):
            for event in EVENTS:
                for time in times:
                    self.assert_refused("event", history, at(time, event))

    def late(self):
        history = History()
        history.add(at(5, CAST))
        return history

    def test_values_that_are_no_events(self):
        values = [value for _, value in not_plain()] + [0, "view", "", (), Stubborn()]
        values += [list(event) for event in EVENTS]
        values += [event[:length] for event in EVENTS for length in range(len(event))]
        values += [event + (0,) for event in EVENTS]
        for history in (History(), self.late()):
            for value in values:
                self.assert_refused("event", history, value)

    def test_kinds_that_are_none(self):
        for kind in ("", "View", "views", "start", "here", b"view", 0, None, ("view",), ["view"], {}, Stubborn()):
            for event in EVENTS:
                self.assert_refused("event", History(), (kind,) + event[1:])

    def test_the_kind_decides_the_number_of_items(self):
        for event in EVENTS:
            for other in EVENTS:
                if len(other) != len(event):
                    self.assert_refused("event", History(), (other[0],) + event[1:])

    def test_a_value_that_is_no_event_is_refused_before_its_time(self):
        history = self.late()
        self.assert_refused("event", history, ("view", 0, A, ID))
        self.assert_refused("event", history, ("views", 0, A, ID, (A,)))
        self.assert_refused("event", history, ("view", -1, A, ID, (A,)))

    def test_other_items_are_not_checked(self):
        for item in (None, -1, "x", (), ("a",), 5, True, b"a"):
            history = History()
            events = [("view", 0, item, item, item), ("cast", 0, item, item, item, item),
                      ("deliver", 0, item, item, item), ("crash", 0, item)]
            for event in events:
                history.add(event)
            self.assertEqual(history.events(), events)

    def test_the_list_is_new(self):
        history = History()
        history.add(VIEW)
        events = history.events()
        events.append(CRASH)
        events.reverse()
        self.assertEqual(history.events(), [VIEW])
        events = history.events()
        history.add(CRASH)
        self.assertEqual(events, [VIEW])

    def test_histories_are_independent(self):
        one, other = History(), History()
        one.add(VIEW)
        self.assertEqual(other.events(), [])


if __name__ == "__main__":
    unittest.main()
