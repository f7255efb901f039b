"""Points 750 and 753 to 759: the judge."""

import copy
import random
import unittest

from mustercall.judge import cause_fault, deliver_fault, judge, own_fault, together_fault, view_fault

A, B, C = (0, 1), (1, 1), (2, 7)
FIRST_A, FIRST_B = (0, A), (0, B)
V, W, X = (1, A), (2, A), (3, B)
FUNCTIONS = (view_fault, deliver_fault, cause_fault, together_fault, own_fault)


def view(member, view_id, *members, time=0):
    return ("view", time, member, view_id, members or (A, B))


def cast(member, view_id, index, payload=None, time=0):
    return ("cast", time, member, view_id, index, payload or f"{member[0]}.{index}")


def message(sender, index, payload=None):
    return (sender, index, payload or f"{sender[0]}.{index}")


def deliver(member, view_id, sender, index, payload=None, time=0):
    return ("deliver", time, member, view_id, message(sender, index, payload))


CRASH = ("crash", 0, 0)
# Two members that enter two views together, and deliver three messages in the first one.
RIGHT = [
    view(A, FIRST_A, A), view(B, FIRST_B, B), view(A, V), view(B, V),
    cast(A, V, 1), deliver(A, V, A, 1), cast(B, V, 1), deliver(B, V, A, 1), cast(B, V, 2),
    deliver(A, V, B, 1), deliver(A, V, B, 2), CRASH, deliver(B, V, B, 1), view(A, W), deliver(B, V, B, 2), view(B, W),
    cast(A, W, 1, "new"), deliver(A, W, A, 1, "new"), deliver(B, W, A, 1, "new"),
]


class Case(unittest.TestCase):
    def assert_fault(self, function, events, fault):
        """Fail unless the function finds this fault, and leaves the events as they are."""
        before = copy.deepcopy(events)
        self.assertEqual(function(events), fault)
        self.assertEqual(events, before)
        # Events of other kinds, and other members, change nothing.
        more = [each for event in events for each in (("crash", event[1], 2), event)]
        self.assertEqual(function(more), fault)
        other = (5, 1)
        before = [view(other, (0, other), other), cast(other, (0, other), 1)]
        self.assertEqual(function(before + events + [deliver(other, (0, other), other, 1)]), fault)


class NoFaultTest(Case):
    def test_no_events(self):
        for function in FUNCTIONS:
            self.assert_fault(function, [], None)
        self.assertEqual(judge([]), [])

    def test_each_beginning_of_a_right_history(self):
        for end in range(len(RIGHT) + 1):
            for function in FUNCTIONS:
                self.assert_fault(function, RIGHT[:end], None)
            self.assertEqual(judge(RIGHT[:end]), [])

    def test_crashes_are_no_faults(self):
        self.assertEqual(judge([("crash", 0, 0), ("crash", 5, 0), ("crash", 2, 1)]), [])

    def test_times_are_not_looked_at(self):
        events = [(event[0], 100 - at) + event[2:] for at, event in enumerate(RIGHT)]
        self.assertEqual(judge(events), [])


class ViewFaultTest(Case):
    def test_a_stranger(self):
        self.assert_fault(view_fault, [view(A, V, B)], ("stranger", A, V))
        self.assert_fault(view_fault, [view(A, V, (0, 2), B)], ("stranger", A, V))
        self.assert_fault(view_fault, RIGHT + [view((1, 2), X)], ("stranger", (1, 2), X))

    def test_other_lists(self):
        self.assert_fault(view_fault, [view(A, V), view(B, V, B)], ("lists", B, V))
        self.assert_fault(view_fault, [view(A, V, A), view(B, V)], ("lists", B, V))
        self.assert_fault(view_fault, [view(A, V), view(B, W), view(A, X), view(C, V, A, B, C)], ("lists", C, V))
        self.assert_fault(view_fault, [view(A, V, B, A), view(B, V, A, B)], ("lists", B, V))

    def test_numbers_that_do_not_rise(self):
        self.assert_fault(view_fault, [view(A, W), view(A, V)], ("falls", A, V))
        self.assert_fault(view_fault, [view(A, V), view(A, V)], ("falls", A, V))
        self.assert_fault(view_fault, [view(A, (1, A)), view(A, (1, B))], ("falls", A, (1, B)))
        self.assert_fault(view_fault, [view(A, X), view(B, V), view(B, W), view(A, W)], ("falls", A, W))
        self.assert_fault(view_fault, [view(A, V), view(A, X), view(A, W)], ("falls", A, W))

    def test_the_numbers_of_other_members_and_lives_do_not_matter(self):
        self.assert_fault(view_fault, [view(A, X), view(B, V)], None)
        self.assert_fault(view_fault, [view(A, X), view((0, 2), V, (0, 2))], None)

    def test_the_order_of_the_reasons(self):
        self.assert_fault(view_fault, [view(A, V), view(A, V, B)], ("stranger", A, V))
        self.assert_fault(view_fault, [view(A, V), view(A, V, A)], ("lists", A, V))

    def test_the_first_fault_counts(self):
        events = [view(A, W), view(A, V), view(B, V, A), view(B, W, B)]
        self.assert_fault(view_fault, events, ("falls", A, V))
        self.assert_fault(view_fault, events[:1] + events[2:], ("stranger", B, V))
        self.assert_fault(view_fault, events[:1] + events[3:], ("lists", B, W))


class DeliverFaultTest(Case):
    def test_another_view(self):
        start = [view(A, V), cast(A, V, 1), cast(A, W, 1), view(B, W)]
        self.assert_fault(deliver_fault, start[1:] + [deliver(A, V, A, 1)], ("view", A, message(A, 1)))
        self.assert_fault(deliver_fault, start + [deliver(A, W, A, 1)], ("view", A, message(A, 1)))
        self.assert_fault(deliver_fault, start + [view(A, W), deliver(A, V, A, 1)], ("view", A, message(A, 1)))
        self.assert_fault(deliver_fault, start + [deliver((0, 2), V, A, 1)], ("view", (0, 2), message(A, 1)))
        self.assert_fault(deliver_fault, start + [deliver(A, V, A, 1)], None)

    def test_a_message_that_was_not_cast(self):
        start = [view(A, V), view(B, V), cast(B, V, 1, "b")]
        fault = ("uncast", A, message(B, 1, "b"))
        delivery = deliver(A, V, B, 1, "b")
        self.assert_fault(deliver_fault, start + [delivery], None)
        self.assert_fault(deliver_fault, start[:2] + [delivery], fault)
        self.assert_fault(deliver_fault, start[:2] + [delivery] + start[2:], fault)
        for other in (cast(A, V, 1, "b"), cast((1, 2), V, 1, "b"), cast(B, W, 1, "b"), cast(B, (1, B), 1, "b"),
                      cast(B, V, 2, "b"), cast(B, V, 1, "c")):
            self.assert_fault(deliver_fault, start[:2] + [other, delivery], fault)
            self.assert_fault(deliver_fault, start + [other, delivery], None)

    def test_indexes(self):
        start = [view(A, V), view(B, V)] + [cast(sender, V, index) for sender in (A, B) for index in (1, 2, 3)]
        for indexes, fault in (((1,), None), ((1, 2, 3), None), ((2,), 2), ((1, 1), 1), ((1, 3), 3), ((1, 2, 1), 1),
                               ((1, 2, 2), 2), ((3, 1, 2), 3)):
            expected = fault and ("index", A, message(B, fault))
            events = [deliver(A, V, B, index) for index in indexes]
            self.assert_fault(deliver_fault, start + events, expected)
            others = [deliver(A, V, A, 1), deliver(A, V, A, 2), deliver(B, V, B, 1)]
            self.assert_fault(deliver_fault, start + others + events, expected)

    def test_indexes_begin_anew_in_each_view(self):
        events = [view(A, V), cast(A, V, 1), deliver(A, V, A, 1), view(A, W), cast(A, W, 1), cast(A, W, 2)]
        self.assert_fault(deliver_fault, events + [deliver(A, W, A, 1), deliver(A, W, A, 2)], None)
        self.assert_fault(deliver_fault, events + [deliver(A, W, A, 2)], ("index", A, message(A, 2)))
        self.assert_fault(deliver_fault, events + [view(A, V), deliver(A, V, A, 1)], ("index", A, message(A, 1)))

    def test_the_order_of_the_reasons(self):
        start = [view(A, V), cast(A, V, 1)]
        self.assert_fault(deliver_fault, start + [deliver(A, W, A, 2)], ("view", A, message(A, 2)))
        self.assert_fault(deliver_fault, start + [deliver(A, V, A, 2)], ("uncast", A, message(A, 2)))

    def test_the_first_fault_counts(self):
        start = [view(A, V), cast(A, V, 2)]
        events = [deliver(A, V, A, 2), deliver(A, V, A, 1), deliver(A, W, A, 2)]
        self.assert_fault(deliver_fault, start + events, ("index", A, message(A, 2)))
        self.assert_fault(deliver_fault, start + events[1:], ("uncast", A, message(A, 1)))
        self.assert_fault(deliver_fault, start + events[2:], ("view", A, message(A, 2)))


class CauseFaultTest(Case):
    START = [view(A, V), view(B, V), view(C, V, A, B, C), cast(A, V, 1), deliver(A, V, A, 1)]

    def test_a_message_before_its_cause(self):
        events = self.START + [deliver(B, V, A, 1), cast(B, V, 1)]
        fault = ("cause", C, message(B, 1))
        self.assert_fault(cause_fault, events + [deliver(C, V, A, 1), deliver(C, V, B, 1)], None)
        self.assert_fault(cause_fault, events + [deliver(C, V, B, 1), deliver(C, V, A, 1)], fault)
        self.assert_fault(cause_fault, events + [deliver(C, V, A, 1, "other"), deliver(C, V, B, 1)], fault)
        self.assert_fault(cause_fault, events + [deliver(C, W, A, 1), deliver(C, V, B, 1)], fault)
        self.assert_fault(cause_fault, events + [deliver((2, 8), V, A, 1), deliver(C, V, B, 1)], fault)

    def test_what_the_sender_delivered_after_the_cast_is_no_cause(self):
        events = self.START + [cast(B, V, 1), deliver(B, V, A, 1), deliver(C, V, B, 1)]
        self.assert_fault(cause_fault, events, None)

    def test_what_the_sender_delivered_in_another_view_is_no_cause(self):
        events = self.START + [deliver(B, W, A, 1), cast(B, V, 1), deliver(C, V, B, 1)]
        self.assert_fault(cause_fault, events, None)

    def test_what_others_delivered_is_no_cause(self):
        events = self.START + [deliver((1, 2), V, A, 1), cast(B, V, 1), deliver(C, V, B, 1)]
        self.assert_fault(cause_fault, events, None)

    def test_the_first_cast_counts(self):
        for payload in (None, "other"):
            events = self.START + [cast(B, V, 1, payload), deliver(B, V, A, 1), cast(B, V, 1)]
            self.assert_fault(cause_fault, events + [deliver(C, V, B, 1)], None)
            events = self.START + [deliver(B, V, A, 1), cast(B, V, 1, payload), cast(B, V, 1)]
            self.assert_fault(cause_fault, events + [deliver(C, V, B, 1)], ("cause", C, message(B, 1)))

    def test_the_cast_may_come_later(self):
        events = self.START + [deliver(C, V, B, 1), deliver(B, V, A, 1), cast(B, V, 1)]
        self.assert_fault(cause_fault, events, ("cause", C, message(B, 1)))
        self.assert_fault(cause_fault, events[:5] + [deliver(C, V, A, 1)] + events[5:], None)
        self.assert_fault(cause_fault, [deliver(A, V, A, 1), cast(A, V, 1)], ("cause", A, message(A, 1)))
        self.assert_fault(cause_fault, [cast(A, V, 1), deliver(A, V, A, 1)], None)

    def test_a_message_without_a_cast_is_passed_over(self):
        for other in (cast(B, W, 1), cast((1, 2), V, 1), cast(B, V, 2)):
            events = self.START + [deliver(B, V, A, 1), other, deliver(C, V, B, 1)]
            self.assert_fault(cause_fault, events, None)
        events += [deliver(B, V, C, 1), cast(B, V, 3), deliver(C, V, A, 1), deliver(C, V, B, 3)]
        self.assert_fault(cause_fault, events, ("cause", C, message(B, 3)))

    def test_each_cause_is_wanted(self):
        causes = [(A, 1), (A, 2), (C, 1)]
        events = [deliver(B, V, *cause) for cause in causes] + [cast(B, V, 1)]
        for left in range(3):
            some = [deliver(A, V, *cause) for cause in causes if cause != causes[left]]
            late = [deliver(A, V, *causes[left])]
            self.assert_fault(cause_fault, events + some + [deliver(A, V, B, 1)] + late, ("cause", A, message(B, 1)))
            self.assert_fault(cause_fault, events + some[::-1] + late + [deliver(A, V, B, 1)], None)

    def test_the_first_fault_counts(self):
        events = self.START + [deliver(B, V, A, 1), cast(B, V, 1), cast(B, V, 2)]
        more = [deliver(C, V, B, 2), deliver((3, 1), V, B, 1)]
        self.assert_fault(cause_fault, events + more, ("cause", C, message(B, 2)))
        self.assert_fault(cause_fault, events + more[::-1], ("cause", (3, 1), message(B, 1)))


class TogetherFaultTest(Case):
    START = [view(A, V), view(B, V)]

    def test_members_that_take_the_same_step(self):
        logs = ([], [(A, 1)], [(A, 1), (B, 1)], [(B, 1), (A, 1)], [(A, 1), (B, 1), (A, 2)])
        for of_a in logs:
            for of_b in logs:
                fault = None if of_a == of_b else ("apart", A, B, W)
                a_events = [deliver(A, V, *each) for each in of_a] + [view(A, W)]
                b_events = [deliver(B, V, *each) for each in of_b] + [view(B, W)]
                self.assert_fault(together_fault, self.START + a_events + b_events, fault)
                self.assert_fault(together_fault, self.START + a_events[:-1] + b_events[:-1] + [view(A, W), view(B, W)],
                                  fault)

    def test_payloads_and_senders(self):
        for other in (deliver(B, V, A, 1, "x"), deliver(B, V, (0, 2), 1), deliver(B, V, A, 2)):
            events = self.START + [deliver(A, V, A, 1), other, view(A, W), view(B, W)]
            self.assert_fault(together_fault, events, ("apart", A, B, W))

    def test_what_was_delivered_after_the_step_or_in_another_view_does_not_count(self):
        events = self.START + [view(A, W), deliver(A, V, A, 1), deliver(B, W, A, 1), view(B, W), deliver(B, W, B, 1)]
        self.assert_fault(together_fault, events, None)

    def test_other_steps(self):
        events = self.START + [deliver(A, V, A, 1), view(A, W)]
        self.assert_fault(together_fault, events + [view(B, X)], None)
        self.assert_fault(together_fault, events + [view(B, (1, B)), view(B, W)], None)
        self.assert_fault(together_fault, events + [view(C, W)], None)
        self.assert_fault(together_fault, events + [view(B, W)], ("apart", A, B, W))

    def test_the_first_event_of_a_step_counts(self):
        start = self.START + [view(C, V), deliver(A, V, A, 1), deliver(B, V, A, 1)]
        self.assert_fault(together_fault, start + [view(A, W), view(B, W), view(C, W)], ("apart", A, C, W))
        self.assert_fault(together_fault, start + [view(C, W), view(B, W), view(A, W)], ("apart", C, B, W))
        self.assert_fault(together_fault, start + [view(B, W), view(C, W), view(A, W)], ("apart", B, C, W))

    def test_a_member_that_takes_a_step_twice(self):
        events = self.START + [view(A, W), view(A, V), view(A, W)]
        self.assert_fault(together_fault, events, None)
        self.assert_fault(together_fault, events[:4] + [deliver(A, V, A, 1)] + events[4:], ("apart", A, A, W))
        self.assert_fault(together_fault, [view(A, V), view(A, V), deliver(A, V, A, 1), view(A, V)],
                          ("apart", A, A, V))

    def test_a_member_without_a_view(self):
        self.assert_fault(together_fault, [deliver(A, V, A, 1), view(A, W), view(B, W)], None)

    def test_the_first_fault_counts(self):
        start = [view(C, V), view((3, 1), V)] + self.START + [deliver(A, V, A, 1), deliver(B, V, A, 1)]
        events = [view(A, W), view(B, X), view(C, X), view((3, 1), W)]
        self.assert_fault(together_fault, start + events, ("apart", B, C, X))
        self.assert_fault(together_fault, start + events[:2] + events[:1:-1], ("apart", A, (3, 1), W))


class OwnFaultTest(Case):
    def test_own_casts(self):
        start = [view(A, V), cast(A, V, 1), cast(A, V, 2)]
        one, two = deliver(A, V, A, 1), deliver(A, V, A, 2)
        fault = ("own", A, V)
        self.assert_fault(own_fault, start + [one, two, view(A, W)], None)
        self.assert_fault(own_fault, start + [two, one, view(A, W)], None)
        self.assert_fault(own_fault, start + [one, view(A, W)], fault)
        self.assert_fault(own_fault, start + [two, view(A, W)], fault)
        self.assert_fault(own_fault, start + [view(A, W)], fault)
        self.assert_fault(own_fault, start + [one, view(A, W), two], fault)
        self.assert_fault(own_fault, start + [one], None)

    def test_other_deliveries(self):
        start = [view(A, V), cast(A, V, 1)]
        for other in (deliver(B, V, A, 1), deliver((0, 2), V, A, 1), deliver(A, W, A, 1), deliver(A, V, B, 1, "0.1"),
                      deliver(A, V, A, 2, "0.1"), deliver(A, V, A, 1, "other")):
            self.assert_fault(own_fault, start + [other, view(A, W)], ("own", A, V))

    def test_other_casts(self):
        for other in (cast(B, V, 1), cast((0, 2), V, 1), cast(A, W, 1), cast(A, (1, B), 1)):
            self.assert_fault(own_fault, [view(A, V), other, view(A, W)], None)
        self.assert_fault(own_fault, [view(A, V), view(A, W), cast(A, V, 1)], None)

    def test_the_view_that_the_member_leaves(self):
        events = [view(A, V), cast(A, V, 1), deliver(A, V, A, 1), view(A, W), cast(A, W, 1)]
        self.assert_fault(own_fault, events + [view(B, X)], None)
        self.assert_fault(own_fault, events + [view(A, X)], ("own", A, W))
        self.assert_fault(own_fault, [cast(A, V, 1), view(A, V), view(A, W)], ("own", A, V))
        self.assert_fault(own_fault, [cast(A, W, 1), view(A, W)], None)

    def test_an_index_that_is_cast_twice(self):
        events = [view(A, V), cast(A, V, 1, "a"), cast(A, V, 1, "b"), deliver(A, V, A, 1, "a")]
        self.assert_fault(own_fault, events + [view(A, W)], ("own", A, V))
        self.assert_fault(own_fault, events + [deliver(A, V, A, 1, "b"), view(A, W)], None)

    def test_the_first_fault_counts(self):
        events = [view(A, V), view(B, W), cast(A, V, 1), cast(B, W, 1)]
        self.assert_fault(own_fault, events + [view(B, X), view(A, X)], ("own", B, W))
        self.assert_fault(own_fault, events + [view(A, X), view(B, X)], ("own", A, V))


class JudgeTest(Case):
    # A history with each kind of fault.
    EVENTS = [
        view(A, V), view(B, V), cast(A, V, 1), deliver(A, V, A, 1), deliver(B, V, A, 1), cast(B, V, 1),
        cast(B, V, 2), view(C, V, A, B, C), deliver(A, V, B, 2), view(A, W), view(B, W),
        deliver(C, V, B, 1),
    ]
    FAULTS = [("lists", C, V), ("index", A, message(B, 2)), ("cause", C, message(B, 1)), ("apart", A, B, W),
              ("own", B, V)]

    def test_the_order_of_the_faults(self):
        self.assertEqual([function(self.EVENTS) for function in FUNCTIONS], self.FAULTS)
        before = copy.deepcopy(self.EVENTS)
        self.assertEqual(judge(self.EVENTS), self.FAULTS)
        self.assertEqual(self.EVENTS, before)

    def test_some_of_the_faults(self):
        self.assertEqual(judge([view(A, V, B)]), [("stranger", A, V)])
        self.assertEqual(judge(self.EVENTS[:-1]), [fault for fault in self.FAULTS if fault[0] != "cause"])
        self.assertEqual(judge(self.EVENTS[:9]), self.FAULTS[:2])
        self.assertEqual(judge(RIGHT + [view(B, W)]), [("falls", B, W)])
        self.assertEqual(judge(RIGHT + [RIGHT[-1]]), [("index", B, message(A, 1, "new"))])
        self.assertEqual(judge(RIGHT[:12] + [view(A, W), view(B, W)]), [("apart", A, B, W), ("own", B, V)])


class Literal:
    """The points 754 to 758 word by word, without any thought for the number of steps."""

    def __init__(self, events):
        self.events = events

    def each(self, kind):
        return [(at, event) for at, event in enumerate(self.events) if event[0] == kind]

    def view_of(self, at, member):
        views = [event[3] for place, event in self.each("view") if place < at and event[2] == member]
        return views[-1] if views else None

    def delivered(self, at, member, view_id):
        return [event[4] for place, event in self.each("deliver") if place < at and event[2:4] == (member, view_id)]

    def view_fault(self):
        for at, (_, _, member, view_id, members) in self.each("view"):
            left = self.view_of(at, member)
            if member not in members:
                return ("stranger", member, view_id)
            if any(place < at and event[3] == view_id and event[4] != members for place, event in self.each("view")):
                return ("lists", member, view_id)
            if left is not None and view_id[0] <= left[0]:
                return ("falls", member, view_id)
        return None

    def deliver_fault(self):
        for at, (_, _, member, view_id, told) in self.each("deliver"):
            if self.view_of(at, member) != view_id:
                return ("view", member, told)
            wanted = (told[0], view_id) + told[1:]
            if not any(place < at and event[2:] == wanted for place, event in self.each("cast")):
                return ("uncast", member, told)
            earlier = [each for each in self.delivered(at, member, view_id) if each[0] == told[0]]
            if told[1] != len(earlier) + 1:
                return ("index", member, told)
        return None

    def cause_fault(self):
        for at, (_, _, member, view_id, told) in self.each("deliver"):
            casts = [place for place, event in self.each("cast") if event[2:5] == (told[0], view_id, told[1])]
            if not casts:
                continue
            mine = self.delivered(at, member, view_id)
            if any(cause not in mine for cause in self.delivered(casts[0], told[0], view_id)):
                return ("cause", member, told)
        return None

    def steps(self):
        found = []
        for at, (_, _, member, view_id, _) in self.each("view"):
            left = self.view_of(at, member)
            if left is not None:
                found.append((at, member, left, view_id))
        return found

    def together_fault(self):
        steps = self.steps()
        for at, member, left, view_id in steps:
            place, first = next(step[:2] for step in steps if step[2:] == (left, view_id))
            if self.delivered(place, first, left) != self.delivered(at, member, left):
                return ("apart", first, member, view_id)
        return None

    def own_fault(self):
        for at, member, left, _ in self.steps():
            for place, event in self.each("cast"):
                if place < at and event[2:4] == (member, left):
                    if (member,) + event[4:] not in self.delivered(at, member, left):
                        return ("own", member, left)
        return None


class LiteralTest(Case):
    """The judge finds what the words of the document say, in histories that chance has made or spoiled."""

    def compare(self, events):
        literal = Literal(events)
        expected = [getattr(literal, function.__name__)() for function in FUNCTIONS]
        self.assertEqual([function(events) for function in FUNCTIONS], expected)
        faults = [fault for fault in expected if fault is not None]
        self.assertEqual(judge(events), faults)
        return [fault[0] for fault in faults]

    def event(self, chance):
        member = chance.choice((A, B, C))
        view_id = chance.choice((V, W, X))
        kind = chance.choice(("view", "cast", "cast", "deliver", "deliver", "deliver"))
        if kind == "view":
            members = {V: (A, B), W: (A, B, C), X: (A, B, C)}[view_id]
            return view(member, view_id, *(members if chance.random() < 0.9 else (member,)))
        index = chance.choice((1, 1, 2))
        payload = chance.choice(("a", "a", "b"))
        if kind == "cast":
            return cast(member, view_id, index, payload)
        return deliver(member, view_id, chance.choice((A, B, C)), index, payload)

    def test_events_by_chance(self):
        chance = random.Random(5)
        kinds = set()
        for _ in range(1500):
            start = [view(A, V), view(B, V), cast(A, V, 1, "a"), cast(A, V, 2, "a")] if chance.random() < 0.5 else []
            kinds.update(self.compare(start + [self.event(chance) for _ in range(chance.randrange(3, 25))]))
        self.assertEqual(kinds, {"stranger", "lists", "falls", "view", "uncast", "index", "cause", "apart", "own"})

    def test_right_histories_with_a_small_change(self):
        chance = random.Random(6)
        kinds = set()
        for _ in range(1500):
            events = list(RIGHT)
            for _ in range(chance.randint(1, 3)):
                at, other = chance.randrange(len(events)), chance.randrange(len(events))
                what = chance.randrange(3)
                if what == 0:
                    events.insert(other, events.pop(at))
                elif what == 1:
                    del events[at]
                else:
                    events.insert(other, events[at])
            kinds.update(self.compare(events))
        self.assertEqual(kinds, {"falls", "view", "uncast", "index", "cause", "apart", "own"})


if __name__ == "__main__":
    unittest.main()
