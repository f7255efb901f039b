"""Points 700 and 711 to 713: schedules."""

import random
import string
import unittest

from mustercall.errors import BadSchedule
from mustercall.limits import MOST_NUMBER
from mustercall.schedule import act_line, parse_schedule, run_schedule
from mustercall.texts import encode
from mustercall.world import World
from odd import Stubborn, not_plain
from worlds import act_by_chance, refusal, run_by_chance, sight, single_acts

# Each form of a line, with the act that it stands for.
LINES = [
    ("tick 1", ("tick", 1)), ("tick 1000", ("tick", 1000)), ("calm 1", ("calm", 1)), ("calm 40", ("calm", 40)),
    ("round", ("round",)), ("heal", ("heal",)),
    ("deliver 0", ("deliver", 0)), ("lose 7", ("lose", 7)), ("double 12", ("double", 12)), ("move 3", ("move", 3)),
    ("deliver 999999999999", ("deliver", 999999999999)),
    ("cast 0 5:it is", ("cast", 0, "it is")), ("cast 11 0:", ("cast", 11, "")), ("cast 1 1: ", ("cast", 1, " ")),
    ("cast 0 3:# a", ("cast", 0, "# a")), ("cast 0 7:  a  b ", ("cast", 0, "  a  b ")),
    ("part ()", ("part", ())), ("part ((0;2;);(1;);)", ("part", ((0, 2), (1,)))),
    ("part ((10;0;);)", ("part", ((10, 0),))),
    ("crash 0", ("crash", 0)), ("start 11", ("start", 11)), ("arm 0 0 0", ("arm", 0, 0, 0)),
    ("arm 2 1 999999999999", ("arm", 2, 1, 999999999999)),
]
# Acts that are not possible in any world, but have a line.
IMPOSSIBLE = [
    ("cast 999999999999 0:", ("cast", 999999999999, "")), ("cast 0 31:" + "a" * 31, ("cast", 0, "a" * 31)),
    ("part (7;1:a;();(3;3;);)", ("part", (7, "a", (), (3, 3)))), ("part (-5;)", ("part", (-5,))),
    ("part (3:a b;)", ("part", ("a b",))), ("crash 12", ("crash", 12)), ("arm 99 5 5", ("arm", 99, 5, 5)),
]


class Case(unittest.TestCase):
    def assert_refused(self, line, reason, function, *arguments):
        with self.assertRaises(BadSchedule) as caught:
            function(*arguments)
        self.assertIs(type(caught.exception), BadSchedule)
        self.assertEqual((caught.exception.line, caught.exception.reason), (line, reason))

    def assert_line_refused(self, reason, *lines):
        """Fail unless each of the lines is refused, wherever it stands behind the group line."""
        for line in lines:
            with self.subTest(line=line):
                self.assert_refused(2, reason, parse_schedule, f"group 3\n{line}")
                self.assert_refused(5, reason, parse_schedule, f"\ngroup 3\n# a\nround\n{line}\ntick 1\nnone")


class ParseTest(Case):
    def test_each_line(self):
        for line, act in LINES + IMPOSSIBLE:
            self.assertEqual(parse_schedule(f"group 3\n{line}"), (1, 3, [(2, act)]))

    def test_all_lines(self):
        text = "\n".join(["group 12"] + [line for line, _ in LINES])
        acts = [(number, act) for number, (_, act) in enumerate(LINES, start=2)]
        self.assertEqual(parse_schedule(text), (1, 12, acts))

    def test_a_group_line_alone(self):
        for text in ("group 3", "group 3\n", "group 3\n\n\n"):
            self.assertEqual(parse_schedule(text), (1, 3, []))
        self.assertEqual(parse_schedule("group 0"), (1, 0, []))
        self.assertEqual(parse_schedule("group 999999999999"), (1, 999999999999, []))

    def test_lines_that_are_skipped(self):
        text = "\n# one\n\n#\n##tick\n#group 5\ngroup 2\n\n# two\n\ntick 3\n#tick 4\n# \n\nround\n#\n"
        self.assertEqual(parse_schedule(text), (7, 2, [(11, ("tick", 3)), (15, ("round",))]))

    def test_a_comment_may_hold_any_characters(self):
        text = f"#\t{chr(37)}\ngroup 2\n# \u00e9\x00 group 3 \r\nround"
        self.assertEqual(parse_schedule(text), (2, 2, [(4, ("round",))]))

    def test_only_newlines_separate_lines(self):
        for sign in ("\r", "\x0b", "\x0c", "\x1c", "\x85", "\u2028", "\r\n", "\n\r"):
            number = 1 if sign != "\n\r" else 2
            self.assert_refused(number, "character", parse_schedule, f"group 2{sign}round")

    def test_the_list_is_new(self):
        text = "group 2\nround"
        _, _, acts = parse_schedule(text)
        self.assertIs(type(acts), list)
        acts.clear()
        self.assertEqual(parse_schedule(text), (1, 2, [(2, ("round",))]))


class RefusedTest(Case):
    """Point 712."""

    def test_characters(self):
        for sign in ("\t", "\r", "\x00", "\x1f", "\x7f", chr(37), "\u00e9", "\u00a0", "\U0001f600"):
            self.assert_line_refused("character", f"round{sign}", sign, f"{sign}round", f"tick{sign}1",
                                     f"cast 0 1:{sign}", f"none {sign}", f"group 3{sign}", f"tick 1 {sign}", f" {sign}")
            self.assert_refused(1, "character", parse_schedule, f"group 3{sign}")
            self.assert_refused(1, "character", parse_schedule, f"{sign}")
            self.assert_refused(3, "character", parse_schedule, f"\n\n{sign}")

    def test_first_lines_that_are_no_group_lines(self):
        for line in ("tick 1", "round", "none", " group 3", "groups 3", "Group 3", "group:3", "3", " ", "   ", "gro",
                     "group3", " # a", "tick none", "cast 0 x"):
            self.assert_refused(1, "group", parse_schedule, line)
            self.assert_refused(3, "group", parse_schedule, f"\n# group 3\n{line}\ngroup 3")

    def test_later_group_lines(self):
        self.assert_line_refused("group", "group 3", "group", "group ", "group x", "group 3 3", "group  3")

    def test_texts_without_a_line(self):
        for text in ("", "\n", "\n\n\n", "#", "# group 3", "#\n\n# a\n", "#\u00e9"):
            self.assert_refused(0, "group", parse_schedule, text)

    def test_verbs(self):
        self.assert_line_refused("verb", "none", "Tick 1", "ticks 1", "tick1", "tick,1", " tick 1", " ", "   ", " # a",
                                 "1", "view 0", "ROUND", "rounds", "heals", "(tick;1;)", "count 1", ":", "tick:1")

    def test_counts_of_words(self):
        self.assert_line_refused(
            "count", "tick", "tick 1 1", "tick  1", "tick 1 ", "tick  ", "calm", "calm 1 2", "calm x y", "round ",
            "round 1", "round  ", "heal ", "heal heal", "deliver", "deliver 0 0", "lose", "lose  0", "double",
            "double 1 2", "move", "move 0 ", "cast", "cast 0", "cast x", "cast 0:", "part", "crash", "crash 0 0",
            "start", "start  0", "arm", "arm 0", "arm 0 0", "arm 0 0 0 0", "arm 0  0 0", "arm 0 0 0 ", "arm x y")

    def test_counts_of_words_in_the_group_line(self):
        for line in ("group", "group 3 3", "group  3", "group 3 ", "group x y", "group 3 #"):
            self.assert_refused(1, "count", parse_schedule, line)
            self.assert_refused(2, "count", parse_schedule, f"#\n{line}")

    def test_numbers(self):
        wrong = ("", "x", "-1", "+1", "00", "01", "-0", "1.", "1;", "1_0", "0x1", "1e3", "1000000000000",
                 "0000000000001", "9" * 30, "1" * 5000, "()", "a1", "1a", "--1", ":", "1:")
        for word in wrong:
            self.assert_line_refused("number", *[f"{verb} {word}" for verb in (
                "tick", "calm", "deliver", "lose", "double", "move", "crash", "start")])
            self.assert_line_refused("number", f"arm {word} 0 0", f"arm 0 {word} 0", f"arm 0 0 {word}",
                                     f"cast {word} 1:a", f"cast {word} x", f"cast {word} ")
            self.assert_refused(1, "number", parse_schedule, f"group {word}")

    def test_payloads(self):
        self.assert_line_refused(
            "text", "cast 0 ", "cast 0 a", "cast 0 1:", "cast 0 1:ab", "cast 0 01:a", "cast 0 -1:", "cast 0 :a",
            "cast 0  1:a", "cast 0 1:a ", "cast 0 5", "cast 0 0", "cast 0 -7", "cast 0 ()", "cast 0 (1:a;)",
            "cast 0 \"a\"", "cast 0 1:a 1:b", "cast 0 1 :a", f"cast 0 100000:{'a' * 100000}")

    def test_groups(self):
        self.assert_line_refused(
            "text", "part ", "part  ()", "part () ", "part (", "part )", "part 0", "part 1:a", "part 0:", "part ((0;))",
            "part ((0);)", "part ((0; 1;);)", "part ((0;) ;)", "part (0;)(1;)", "part ((00;);)", "part ((-0;);)",
            "part [[0]]", "part ((0,2),(1,))", f"part {'(' * 9}{';)' * 8})", f"part {'(' * 9}){';)' * 8}", "part x")
        deep = f"{'(' * 8}){';)' * 7}"
        self.assertEqual(encode(parse_schedule(f"group 1\npart {deep}")[2][0][1][1]), deep)

    def test_the_order_of_the_reasons(self):
        self.assert_line_refused("character", "group\t3", "none\t", "tick 1 1\t", "tick x\t", "cast 0 x\t")
        self.assert_line_refused("group", "group", "group x")
        self.assert_line_refused("verb", "none none", "none x", "casts 0 x")
        self.assert_line_refused("count", "arm x 0", "tick x 1", "cast x")
        self.assert_line_refused("number", "cast x x", "cast 01 ()")

    def test_the_first_wrong_line_counts(self):
        self.assert_refused(1, "group", parse_schedule, "tick x\n\t")
        self.assert_refused(1, "number", parse_schedule, "group x\n\t")
        self.assert_refused(2, "text", parse_schedule, "group 2\ncast 0 x\nnone\n\t")
        self.assert_refused(3, "verb", parse_schedule, "group 2\n# a\nnone\ncast 0 x\n\t")


class ActLineTest(Case):
    def test_each_line(self):
        for line, act in LINES + IMPOSSIBLE:
            self.assertEqual(act_line(act), line)

    def test_the_examples_of_the_document(self):
        self.assertEqual(act_line(("cast", 0, "it is")), "cast 0 5:it is")
        self.assertEqual(act_line(("part", ((0, 2), (1,)))), "part ((0;2;);(1;);)")

    def test_the_line_is_read_back(self):
        chance = random.Random(2)
        signs = [sign for sign in string.printable[:95] if sign != chr(37)]
        for _ in range(2000):
            act = act_by_chance(chance, 12, 10 ** chance.randrange(12))
            if act[0] == "cast":
                act = act[:2] + ("".join(chance.choices(signs, k=chance.randrange(35))),)
            line = act_line(act)
            self.assertNotIn("\n", line)
            self.assertEqual(parse_schedule(f"group 1\n{line}"), (1, 1, [(2, act)]))

    def test_acts_that_check_act_refuses(self):
        for value in ["tick", (), ("tick",), ("tick", 0), ("tick", 1001), ("tick", 1, 1), ("none",), ("group", 3),
                      ["round"], ("deliver", -1), ("deliver", MOST_NUMBER + 1), ("arm", 0, -1, 0), ("calm", "1"),
                      Stubborn()] + [value for _, value in not_plain()]:
            self.assert_refused(0, "act", act_line, value)

    def test_acts_without_a_line(self):
        for value in [-1, 10 ** 12, 10 ** 30, "0", "", (), (0,), Stubborn()] + [value for _, value in not_plain()]:
            for act in (("cast", value, "a"), ("crash", value), ("start", value), ("arm", value, 0, 0)):
                self.assert_refused(0, "act", act_line, act)
        for act in (("deliver", MOST_NUMBER), ("lose", MOST_NUMBER), ("double", MOST_NUMBER), ("move", MOST_NUMBER),
                    ("arm", 0, MOST_NUMBER, 0), ("arm", 0, 0, MOST_NUMBER)):
            self.assert_refused(0, "act", act_line, act)
            lesser = tuple(MOST_NUMBER - 1 if item == MOST_NUMBER else item for item in act)
            self.assertIsNone(refusal(act_line, lesser))

    def test_texts_without_a_line(self):
        payloads = [value for _, value in not_plain()]
        payloads += [0, 5, (), ("a",), "\n", chr(37), "\u00e9", "a\x7f", "a" * 100000, Stubborn()]
        for payload in payloads:
            self.assert_refused(0, "act", act_line, ("cast", 0, payload))
        groups = [value for _, value in not_plain()]
        groups += [0, "", "()", [(0,)], ([0],), ((0, None),), ((True,),), ((((((((((),),),),),),),),),), ("\n",),
                   (10 ** 24,), Stubborn(), (Stubborn(),)]
        for each in groups:
            self.assert_refused(0, "act", act_line, ("part", each))


class RunTest(Case):
    """Points 700 and 713."""

    def test_the_example_of_the_document(self):
        world = run_schedule("group 2\ncrash 1\nstart 1")
        self.assertEqual(world.views(), [((0, 1), (0, (0, 1)), ((0, 1),), False),
                                         ((1, 2), (0, (1, 2)), ((1, 2),), False)])

    def test_a_world_without_acts(self):
        for count in range(1, 13):
            self.assertEqual(sight(run_schedule(f"# a\ngroup {count}\n"), count), sight(World(count), count))

    def test_counts_of_processes_that_are_none(self):
        for count in (0, 13, 14, 100, 999999999999):
            self.assert_refused(1, "processes", run_schedule, f"group {count}\ntick 1")
            self.assert_refused(3, "processes", run_schedule, f"\n#\ngroup {count}\ncast 99 0:")
            self.assert_refused(4, "verb", run_schedule, f"\n#\ngroup {count}\nnone")

    def test_a_text_that_is_no_schedule(self):
        self.assert_refused(0, "group", run_schedule, "")
        self.assert_refused(3, "number", run_schedule, "group 2\ncrash 9\ntick x")

    def test_acts_that_are_not_possible(self):
        for line, reason in (("tick 0", "number"), ("calm 1001", "number"), ("tick 999999999999", "number"),
                             ("cast 2 0:", "process"), ("crash 12", "process"), ("start 2", "process"),
                             ("arm 2 0 0", "process"), ("cast 0 31:" + "a" * 31, "payload"),
                             ("part ((0;0;);)", "groups"), ("part ((2;);)", "groups"), ("part (0;)", "groups"),
                             ("deliver 0", "position"), ("lose 5", "position"), ("double 0", "position"),
                             ("move 0", "position"),
                             ("cast 1 0:", "state"), ("crash 1", "state"), ("start 0", "state"),
                             ("arm 0 0 0", "state")):
            with self.subTest(line=line):
                self.assert_refused(3, reason, run_schedule, f"group 2\ncrash 1\n{line}\ncast 9 0:")
                self.assert_refused(6, reason, run_schedule, f"\n#\ngroup 2\ncrash 1\n\n{line}")

    def test_the_same_world_by_acts_by_single_acts_and_by_a_schedule(self):
        for seed in range(12):
            chance = random.Random(seed)
            count = chance.randint(1, 5)
            world = World(count)
            acts = run_by_chance(world, chance, count, 150)
            expected = sight(world, count)
            again, single = World(count), World(count)
            for act in acts:
                again.act(act)
                # A calm of n is n ticks of 1, and a round behind each.
                parts = [("tick", 1), ("round",)] * act[1] if act[0] == "calm" else [act]
                for part in parts:
                    for each in single_acts(single, part):
                        single.act(each)
            text = "\n".join([f"group {count}"] + [act_line(act) for act in acts])
            for other in (again, single, run_schedule(text), run_schedule(text)):
                self.assertEqual(sight(other, count), expected)


if __name__ == "__main__":
    unittest.main()
