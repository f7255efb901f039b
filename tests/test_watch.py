"""Points 300 to 302: the watch."""

import itertools
import random
import unittest

from mustercall.limits import MOST_NUMBER
from mustercall.watch import SILENCE, Watch

ME = (1, 4)


def told(*members):
    """Return a watch of ME that heard these members."""
    watch = Watch(ME)
    for member in members:
        watch.heard(member)
    return watch


def tick(watch, count):
    for _ in range(count):
        watch.tick()


class ReachTest(unittest.TestCase):
    def test_the_silence(self):
        self.assertEqual(SILENCE, 4)

    def test_the_example_of_the_document(self):
        self.assertEqual(told((2, 7), (0, 1), (2, 6)).reach(), ((0, 1), (1, 4), (2, 7)))

    def test_nobody_was_heard(self):
        watch = Watch(ME)
        self.assertEqual(watch.reach(), (ME,))
        tick(watch, 10)
        self.assertEqual(watch.reach(), (ME,))

    def test_the_calls_return_nothing(self):
        watch = Watch(ME)
        self.assertIsNone(watch.heard((2, 7)))
        self.assertIsNone(watch.heard((2, 6)))
        self.assertIsNone(watch.heard(ME))
        self.assertIsNone(watch.tick())

    def test_the_reach_ascends_in_whatever_order_members_were_heard(self):
        members = ((0, 9), (2, 1), (3, 5), (11, MOST_NUMBER))
        for order in itertools.permutations(members):
            self.assertEqual(told(*order).reach(), ((0, 9), ME, (2, 1), (3, 5), (11, MOST_NUMBER)))
        self.assertEqual(Watch((0, 2)).reach(), ((0, 2),))

    def test_a_member_stays_for_four_ticks(self):
        watch = told((2, 7))
        for _ in range(4):
            watch.tick()
            self.assertEqual(watch.reach(), (ME, (2, 7)))
        for _ in range(4):
            watch.tick()
            self.assertEqual(watch.reach(), (ME,))

    def test_each_member_has_its_own_age(self):
        watch = told((2, 7))
        tick(watch, 2)
        watch.heard((0, 1))
        tick(watch, 2)
        self.assertEqual(watch.reach(), ((0, 1), ME, (2, 7)))
        watch.tick()
        self.assertEqual(watch.reach(), ((0, 1), ME))
        watch.tick()
        self.assertEqual(watch.reach(), ((0, 1), ME))
        watch.tick()
        self.assertEqual(watch.reach(), (ME,))

    def test_a_letter_makes_the_age_0_again(self):
        watch = told((2, 7))
        for _ in range(5):
            tick(watch, 4)
            watch.heard((2, 7))
        tick(watch, 4)
        self.assertEqual(watch.reach(), (ME, (2, 7)))
        watch.tick()
        self.assertEqual(watch.reach(), (ME,))

    def test_a_silent_member_comes_back(self):
        watch = told((2, 7))
        tick(watch, 9)
        watch.heard((2, 7))
        self.assertEqual(watch.reach(), (ME, (2, 7)))
        tick(watch, 5)
        self.assertEqual(watch.reach(), (ME,))


class LivesTest(unittest.TestCase):
    def test_a_greater_life_takes_the_place(self):
        watch = told((2, 7), (2, 8))
        self.assertEqual(watch.reach(), (ME, (2, 8)))
        watch.heard((2, MOST_NUMBER))
        self.assertEqual(watch.reach(), (ME, (2, MOST_NUMBER)))

    def test_a_greater_life_has_the_age_0(self):
        watch = told((2, 7))
        tick(watch, 4)
        watch.heard((2, 8))
        tick(watch, 4)
        self.assertEqual(watch.reach(), (ME, (2, 8)))

    def test_a_lesser_life_has_no_effect(self):
        watch = told((2, 7))
        tick(watch, 4)
        watch.heard((2, 6))
        self.assertEqual(watch.reach(), (ME, (2, 7)))
        watch.tick()
        self.assertEqual(watch.reach(), (ME,))

    def test_a_lesser_life_does_not_come_into_the_reach_of_a_silent_process(self):
        watch = told((2, 7))
        tick(watch, 20)
        watch.heard((2, 6))
        self.assertEqual(watch.reach(), (ME,))
        watch.heard((2, 7))
        self.assertEqual(watch.reach(), (ME, (2, 7)))

    def test_letters_of_the_own_process_have_no_effect(self):
        for life in (1, 3, 4, 5, MOST_NUMBER):
            watch = told((2, 7), (1, life))
            self.assertEqual(watch.reach(), (ME, (2, 7)))
            tick(watch, 5)
            self.assertEqual(watch.reach(), (ME,))
            self.assertIs(watch.knows((1, 1)), False)
            self.assertIs(watch.knows(ME), False)


class KnowsTest(unittest.TestCase):
    def test_greater_lives(self):
        watch = told((2, 7))
        for life, known in ((1, True), (6, True), (7, False), (8, False), (MOST_NUMBER, False)):
            self.assertIs(watch.knows((2, life)), known, life)

    def test_other_processes_are_not_known(self):
        watch = told((2, 7))
        for member in ((0, 1), (1, 1), (1, 4), (3, 1), (7, 2)):
            self.assertIs(watch.knows(member), False)

    def test_a_watch_that_was_told_nothing(self):
        self.assertIs(Watch(ME).knows((2, 1)), False)

    def test_a_silent_life_is_still_known(self):
        watch = told((2, 7))
        tick(watch, 50)
        self.assertIs(watch.knows((2, 6)), True)
        self.assertIs(watch.knows((2, 7)), False)

    def test_a_lesser_life_does_not_lower_what_is_known(self):
        watch = told((2, 7), (2, 3))
        self.assertIs(watch.knows((2, 6)), True)

    def test_asking_has_no_effect(self):
        watch = told((2, 7))
        watch.knows((2, 9))
        watch.knows((0, 1))
        self.assertEqual(watch.reach(), (ME, (2, 7)))
        self.assertIs(watch.knows((2, 8)), False)


class RunTest(unittest.TestCase):
    def test_many_runs_against_the_words_of_the_document(self):
        """Compare a watch with the list of all that it was told."""
        chance = random.Random(5)
        for _ in range(60):
            watch = Watch(ME)
            letters = []
            ticks = 0
            for _ in range(60):
                if chance.random() < 0.4:
                    watch.tick()
                    ticks += 1
                else:
                    member = (chance.randrange(4), chance.randint(1, 5))
                    watch.heard(member)
                    letters.append((member, ticks))
                self.assertEqual(watch.reach(), self.reach(letters, ticks))

    def reach(self, letters, ticks):
        reach = [ME]
        for process in (0, 2, 3):
            lives = [member[1] for member, _ in letters if member[0] == process]
            if lives:
                last = max(time for member, time in letters if member == (process, max(lives)))
                if ticks - last <= 4:
                    reach.append((process, max(lives)))
        return tuple(sorted(reach))


if __name__ == "__main__":
    unittest.main()
