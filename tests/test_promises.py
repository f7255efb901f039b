"""Points 1 to 7 and 714: what the whole program promises, over worlds."""

import random
import unittest

from mustercall.judge import judge
from mustercall.order import WINDOW
from mustercall.world import World
from worlds import groups_by_chance, lose_all, start_all

A, B, C = (0, 1), (1, 1), (2, 1)


def trouble(world, chance, count, steps, loss):
    """Perform so many acts: losses, doublings, crashes, torn writes and partings among them."""
    for step in range(steps):
        what = chance.random()
        process = chance.randrange(count)
        if what < 0.12:
            world.act(("tick", 1))
        elif what < 0.27:
            if world.is_up(process):
                world.act(("cast", process, f"m{step}"))
        elif what < 0.28:
            crash_or_start(world, chance, process)
        elif what < 0.29:
            world.act(("heal",) if chance.random() < 0.5 else ("part", groups_by_chance(chance, count)))
        else:
            shuffle(world, chance, loss)


def crash_or_start(world, chance, process):
    if world.is_up(process):
        world.act(("crash", process))
        return
    if chance.random() < 0.5:
        world.act(("arm", process, 0, chance.randrange(6)))
    world.act(("start", process))


def shuffle(world, chance, loss):
    for _ in range(chance.randrange(25)):
        many = len(world.packets())
        if many == 0:
            return
        at = chance.choice((0, 0, chance.randrange(many)))
        what = chance.random()
        kind = "lose" if what < loss else "double" if what < loss * 1.5 else "move" if what < loss * 2 else "deliver"
        world.act((kind, at))


def members_of(world, group):
    return tuple(world.member(process).member() for process in group if world.is_up(process))


class JudgedTest(unittest.TestCase):
    """Point 5: the judge finds no fault in what the members did, and finds what is added to it."""

    def histories(self):
        for seed in range(45):
            chance = random.Random(seed)
            count = chance.randint(2, 6)
            world = World(count)
            trouble(world, chance, count, 500, chance.choice((0, 0.02, 0.1)))
            yield seed, world.history().events()

    def test_no_fault(self):
        together = deliveries = crashes = runs = 0
        for seed, events in self.histories():
            self.assertEqual(judge(events), [], seed)
            runs += 1
            together += self.steps_together(events)
            deliveries += len([event for event in events if event[0] == "deliver" and event[4][0] != event[2]])
            crashes += len([event for event in events if event[0] == "crash"])
        # A run in which nothing happens proves nothing.
        self.assertGreater(together, runs)
        self.assertGreater(deliveries, 10 * runs)
        self.assertGreater(crashes, runs)

    def steps_together(self, events):
        """Return how many steps from one view to another one were taken by several members."""
        views, steps = {}, {}
        for event in events:
            if event[0] == "view":
                step = (views.get(event[2]), event[3])
                steps[step] = steps.get(step, 0) + 1
                views[event[2]] = event[3]
        return len([step for step, members in steps.items() if step[0] and members > 1])

    def test_the_last_view_or_delivery_once_more(self):
        for seed, events in self.histories():
            for kind in ("view", "deliver"):
                last = [event for event in events if event[0] == kind][-1]
                self.assertNotEqual(judge(events + [last]), [], (seed, kind))

    def test_no_life_is_used_twice(self):
        for seed, events in self.histories():
            first_views = [event[2] for event in events if event[0] == "view" and event[3][0] == 0]
            self.assertEqual(len(first_views), len(set(first_views)), seed)
            for process in range(6):
                lives = [life for who, life in first_views if who == process]
                self.assertEqual(lives, sorted(lives), seed)

    def test_members_agree_step_by_step(self):
        # The promise of together_fault, with the views of the members as they are, not from the history.
        for seed in range(10):
            chance = random.Random(seed)
            world = World(4)
            logs, before = {}, {}
            for _ in range(150):
                trouble(world, chance, 4, 1, 0.1)
                for member, view_id, members, _ in world.views():
                    self.assertIn(member, members)
                    log = world.member(member[0]).log()
                    left, left_log = before.get(member, (None, ()))
                    if left is not None and left != view_id:
                        whole = logs.setdefault((left, view_id), self.delivered(world, member, left))
                        self.assertEqual(self.delivered(world, member, left), whole)
                        self.assertEqual(whole[:len(left_log)], left_log)
                    before[member] = (view_id, log)

    def delivered(self, world, member, view_id):
        events = world.member(member[0]).events()
        return tuple(event[2] for event in events if event[:2] == ("deliver", view_id))


class SettledTest(unittest.TestCase):
    """Points 1, 3, 6 and 7: each part of a parted network settles in one view, and goes on by itself."""

    def assert_settled(self, world):
        for group in world.groups():
            members = members_of(world, group)
            views = [view for view in world.views() if view[0] in members]
            self.assertEqual({view[1:] for view in views}, {(views[0][1], members, False)} if members else set())

    def check_casts(self, world, chance):
        """Fail unless what all cast now, at most WINDOW each, is delivered by all within 4 ticks."""
        up = [view[0][0] for view in world.views()]
        before = {process: world.member(process).log() for process in up}
        texts = {}
        for process in up:
            texts[process] = [f"{process}.{at}" for at in range(chance.choice((0, 1, WINDOW)))]
            for text in texts[process]:
                world.act(("cast", process, text))
        # The 4 ticks may come right behind the casts, with a round behind each but the last one.
        world.act(("round",))
        world.act(("calm", 3))
        world.act(("tick", 1))
        for group in world.groups():
            for process in [process for process in group if process in up]:
                log = world.member(process).log()
                self.assertEqual(log[:len(before[process])], before[process])
                new = [message[2] for message in log[len(before[process]):]]
                wanted = [text for other in group for text in texts.get(other, [])]
                self.assertEqual(sorted(new), sorted(wanted))
        world.act(("round",))

    def run_settled(self, seeds, parts):
        for seed in seeds:
            chance = random.Random(seed)
            count = chance.randint(2, 7)
            world = World(count)
            trouble(world, chance, count, chance.choice((0, 100, 250)), chance.choice((0, 0.1)))
            if chance.random() < 0.7:
                start_all(world, count)
            lose_all(world)
            world.act(("part", self.groups(chance, count, parts)))
            world.act(("calm", 40))
            views = world.views()
            self.assert_settled(world)
            self.check_casts(world, chance)
            self.check_casts(world, chance)
            world.act(("calm", 10))
            self.assertEqual(world.views(), views)
            self.assertEqual(judge(world.history().events()), [])

    def groups(self, chance, count, parts):
        groups = {}
        for process in range(count):
            groups.setdefault(chance.randrange(parts), []).append(process)
        return tuple(tuple(group) for group in groups.values())

    def test_the_whole_group(self):
        self.run_settled(range(20), 1)

    def test_two_parts(self):
        self.run_settled(range(100, 120), 2)

    def test_three_parts(self):
        self.run_settled(range(200, 220), 3)

    def test_parting_and_healing(self):
        world = World(5)
        world.act(("calm", 40))
        self.assertEqual({view[2] for view in world.views()}, {tuple((process, 1) for process in range(5))})
        world.act(("part", ((0,), (1, 2), (3, 4))))
        world.act(("calm", 40))
        self.assert_settled(world)
        for process in range(5):
            world.act(("cast", process, "alone"))
        world.act(("calm", 4))
        self.assertEqual([len(world.member(process).log()) for process in range(5)], [1, 2, 2, 2, 2])
        world.act(("heal",))
        world.act(("calm", 40))
        self.assert_settled(world)
        self.assertEqual(judge(world.history().events()), [])

    def test_a_member_that_comes_back(self):
        world = World(3)
        world.act(("calm", 40))
        world.act(("crash", 0))
        world.act(("calm", 40))
        self.assertEqual([view[2] for view in world.views()], [(B, C)] * 2)
        world.act(("start", 0))
        world.act(("calm", 40))
        self.assertEqual([view[2] for view in world.views()], [((0, 2), B, C)] * 3)
        self.assertEqual(world.member(0).log(), ())

    def test_what_waits_while_the_network_is_parted(self):
        world = World(2)
        world.act(("tick", 1))
        world.act(("deliver", 1))
        world.act(("tick", 1))
        world.act(("cast", 0, "early"))
        self.assertEqual(world.member(0).waiting(), ("early",))
        world.act(("calm", 40))
        self.assertEqual([world.member(process).log() for process in (0, 1)], [((A, 1, "early"),)] * 2)


class PartsTest(unittest.TestCase):
    """Point 714: what happens to the others changes nothing in a group of a parted network."""

    def inner(self, world, group):
        """Return the positions of the packets between the processes of the group."""
        return [at for at, packet in enumerate(world.packets()) if packet[0] in group and packet[1] in group]

    def outer(self, world, group):
        inside = self.inner(world, group)
        return [at for at in range(len(world.packets())) if at not in inside]

    def act_inside(self, world, group, step):
        """Perform a step (kind, number, payload) on the processes and the packets of the group."""
        kind, number, payload = step
        process = group[number % len(group)]
        positions = self.inner(world, group)
        if kind in ("tick", "calm", "round"):
            world.act((kind, 1) if kind != "round" else (kind,))
        elif kind in ("deliver", "lose", "double", "move"):
            if positions:
                world.act((kind, positions[number % len(positions)]))
        elif kind == "cast":
            if world.is_up(process):
                world.act((kind, process, payload))
        elif world.is_up(process):
            world.act(("crash", process))
        else:
            world.act(("start", process))

    def disturb(self, world, group, chance):
        """Perform some acts on the other processes, and on the packets from them or to them."""
        others = [process for process in range(6) if process not in group]
        for _ in range(chance.randrange(6)):
            process = chance.choice(others)
            positions = self.outer(world, group)
            what = chance.randrange(4)
            if what == 0 and positions:
                kind = chance.choice(("deliver", "lose", "double", "move"))
                world.act((kind, chance.choice(positions)))
            elif what == 1 and world.is_up(process):
                world.act(("cast", process, "x"))
            elif what == 2:
                crash_or_start(world, chance, process)

    def sight(self, world, group):
        up = [process for process in group if world.is_up(process)]
        history = [event for event in world.history().events()
                   if (event[2] if event[0] == "crash" else event[2][0]) in group]
        packets = world.packets()
        return (up, [world.member(process).events() for process in up], [view for view in world.views()
                if view[0][0] in group], history, [packets[at] for at in self.inner(world, group)])

    def run_group(self, seed, group, disturbed):
        chance, noise = random.Random(seed), random.Random(seed + 1000)
        world = World(6)
        world.act(("part", (group,)))
        kinds = ("tick",) * 3 + ("deliver",) * 9 + ("lose", "double", "move", "move", "cast", "cast", "round", "calm")
        for step in range(120):
            if disturbed:
                self.disturb(world, group, noise)
            kind = chance.choice(kinds) if chance.random() < 0.97 else "crash"
            self.act_inside(world, group, (kind, chance.randrange(1000), f"m{step}"))
        return self.sight(world, group)

    def test_a_group_is_not_disturbed(self):
        for seed in range(15):
            for group in ((0, 1, 2), (5, 3), (4, 1, 0, 2)):
                self.assertEqual(self.run_group(seed, group, False), self.run_group(seed, group, True), (seed, group))

    def test_things_happen_in_the_groups(self):
        _, events, views, history, _ = self.run_group(1, (0, 1, 2), True)
        self.assertTrue(any(len(view[2]) > 1 for view in views) or any(len(event[-1]) > 1 for event in history))
        self.assertGreater(sum(map(len, events)), 10)


if __name__ == "__main__":
    unittest.main()
