"""Points 5 to 7, 506 and 613: runs of members whose letters are lost, doubled, delayed and reordered."""

import random
import unittest

from group import Group, check_promises
from mustercall.order import WINDOW

A, B = (0, 1), (1, 1)


def part_at_random(group, parts):
    group.part_of = [group.chance.randrange(parts) for _ in range(group.count)]


def trouble(group, steps, loss, crashes):
    """Run the group for so many steps in which anything may happen."""
    chance = group.chance
    for step in range(steps):
        what = chance.random()
        process = chance.randrange(group.count)
        if what < 0.12:
            group.tick([process for process in group.up if chance.random() < 0.9])
        elif what < 0.25 and process in group.up:
            group.cast(process, f"m{step}")
        elif what < 0.25 + crashes:
            if process in group.up:
                group.crash(process)
            else:
                restart(group, process)
        elif what < 0.27 + crashes:
            part_at_random(group, chance.choice((1, 1, 2, 3)))
        else:
            shuffle_letters(group, loss)


def restart(group, process):
    if group.chance.random() < 0.5:
        group.cells[process].arm(0, group.chance.randrange(5))
    group.start(process)


def shuffle_letters(group, loss):
    """Lose, double and deliver some of the letters, most of them in order."""
    chance = group.chance
    for _ in range(chance.randrange(15)):
        if not group.packets:
            return
        at = 0 if chance.random() < 0.6 else chance.randrange(len(group.packets))
        what = chance.random()
        if what < loss:
            group.packets.pop(at)
        elif what < loss * 1.5:
            group.packets.append(group.packets[at])
        else:
            group.deliver(at)


class TroubleTest(unittest.TestCase):
    """Points 5, 506 and 613."""

    def run_trouble(self, seeds, loss, crashes):
        views = steps = messages = 0
        for seed in seeds:
            chance = random.Random(seed)
            group = Group(self, chance.randint(3, 5), chance)
            trouble(group, 250, loss, crashes)
            group.check()
            events = [event for member in group.members for event in member.events()]
            views += len(set(event[1] for event in events if event[0] == "view"))
            steps += len([event for event in events if event[0] == "view"])
            messages += len([event for event in events if event[0] == "deliver"])
        # A run in which nothing happens proves nothing.
        self.assertGreater(steps, views + len(seeds))
        self.assertGreater(messages, 20 * len(seeds))

    def test_letters_in_any_order(self):
        self.run_trouble(range(40), 0, 0)

    def test_letters_that_are_lost_and_doubled(self):
        self.run_trouble(range(100, 140), 0.2, 0)

    def test_crashes(self):
        self.run_trouble(range(200, 260), 0.05, 0.04)

    def test_all_at_once(self):
        self.run_trouble(range(300, 360), 0.15, 0.02)

    def test_the_check_finds_each_fault(self):
        first, second = (0, A), (1, A)
        view_a, view_b = ("view", first, (A,)), ("view", (0, B), (B,))
        both = ("view", second, (A, B))
        cast, deliver = ("cast", second, 1, "a"), ("deliver", second, (A, 1, "a"))
        other_cast, other_deliver = ("cast", second, 1, "b"), ("deliver", second, (B, 1, "b"))
        third = ("view", (2, A), (A, B))
        right = [(A, [view_a, both, cast, deliver, other_deliver, third]),
                 (B, [view_b, both, deliver, other_cast, other_deliver, third])]
        check_promises(self, right)
        of_a, of_b = right[0][1], right[1][1]
        wrong = [
            [right[0], right[0]],
            [(A, of_a[:5]), (B, of_b[:1] + [("view", second, (B,))])],
            [(B, [view_a])],
            [(A, [view_a, both, view_a])],
            [(A, [view_a, both, both])],
            [(A, of_a), (B, of_b[:2] + of_b[2:4] + [other_deliver, deliver, third])],
            [(A, of_a), (B, of_b[:2] + [other_cast, other_deliver, deliver, third])],
            [(A, of_a[:3] + [other_deliver, deliver]), (B, of_b[:5])],
            [(A, of_a[:4] + [deliver]), (B, of_b[:2])],
            [(A, of_a[:2]), (B, of_b[:3])],
            [(A, of_a[:3] + [third]), (B, of_b[:2])],
            [(A, of_a[:3] + [third, deliver]), (B, of_b[:2])],
        ]
        for runs in wrong:
            with self.assertRaises(AssertionError):
                check_promises(self, runs)


class TimelyTest(unittest.TestCase):
    """Points 6 and 7."""

    def settle(self, seed, parts, keep_letters):
        """Return a group that has been in trouble, and its parts, for which the network is timely for 40 ticks."""
        chance = random.Random(seed)
        group = Group(self, chance.randint(3, 5), chance)
        trouble(group, chance.choice((0, 60, 200)), chance.choice((0, 0.1, 0.4)), chance.choice((0, 0.05)))
        down = chance.random() < 0.3
        for process in range(group.count):
            while process not in group.up and not down:
                group.start(process)
        part_at_random(group, parts)
        if not keep_letters:
            group.packets = []
        for _ in range(40):
            group.tick(sorted(group.up))
            group.be_timely()
        return group

    def parts(self, group):
        """Return the lists of the processes that are up, one for each part."""
        parts = {}
        for process in sorted(group.up):
            parts.setdefault(group.part_of[process], []).append(process)
        return list(parts.values())

    def views(self, group):
        return {process: group.up[process].view() for process in sorted(group.up)}

    def check_views(self, group):
        for part in self.parts(group):
            members = tuple(group.up[process].member() for process in part)
            self.assertEqual({group.up[process].view() for process in part},
                             {(group.up[part[0]].view()[0], members)})
            self.assertEqual({group.up[process].frozen() for process in part}, {False})

    def run_timely(self, seeds, parts, keep_letters):
        for seed in seeds:
            group = self.settle(seed, parts, keep_letters)
            self.check_views(group)
            views = self.views(group)
            for _ in range(3):
                self.check_casts(group)
            for _ in range(10):
                group.tick(sorted(group.up))
                group.be_timely()
                self.assertEqual(self.views(group), views)
            group.check()

    def check_casts(self, group):
        """Fail unless what all cast now is delivered by all within 4 ticks."""
        for part in self.parts(group):
            logs = {group.up[process].log() for process in part}
            self.assertEqual(len(logs), 1, "all have delivered the same")
        counts = {process: group.chance.choice((0, 1, WINDOW)) for process in group.up}
        before = {process: len(group.up[process].log()) for process in group.up}
        for process, count in counts.items():
            for at in range(count):
                group.cast(process, str(at))
        for _ in range(3):
            group.be_timely()
            group.tick(sorted(group.up))
        group.be_timely()
        group.tick(sorted(group.up))
        for part in self.parts(group):
            total = sum(counts[process] for process in part)
            for process in part:
                self.assertEqual(len(group.up[process].log()), before[process] + total)
        group.be_timely()

    def test_the_whole_group(self):
        self.run_timely(range(40), 1, False)

    def test_two_parts(self):
        self.run_timely(range(100, 140), 2, False)

    def test_three_parts(self):
        self.run_timely(range(200, 230), 3, False)

    def test_letters_from_before(self):
        self.run_timely(range(300, 330), 1, True)
        self.run_timely(range(400, 430), 2, True)

    def test_a_new_group(self):
        for count in range(1, 13):
            group = Group(self, count, random.Random(count))
            for _ in range(40):
                group.tick(range(count))
                group.be_timely()
            self.check_views(group)
            self.check_casts(group)
            group.check()


if __name__ == "__main__":
    unittest.main()
