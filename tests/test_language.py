"""Rules of the Python subset that a simple look at the files of the package can check."""

import ast
import builtins
import pathlib
import re
import unittest

ROOT = pathlib.Path(__file__).resolve().parent.parent
PACKAGE = ROOT / "mustercall"

# The functions and classes of the interface that have been built: each is defined in its own file (L16).
INTERFACE = {
    "errors": ("MusterError", "BadText", "BadPayload", "BadLetter", "BadMember", "BadView", "DiskError",
               "DiskCrashed", "BadSchedule"),
    "limits": (),
    "texts": ("is_printable", "is_integer", "encode", "decode"),
    "members": ("is_process", "is_member", "is_members", "is_view_id", "is_payload", "is_message"),
    "letters": ("is_log", "last_index", "is_pending", "is_letter", "check_letter"),
    "cells": ("Cells",),
    "lives": ("life_text", "life_of", "next_life"),
    "watch": ("Watch",),
    "order": ("Order",),
    "change": ("Attempt", "rest_of"),
    "member": ("Member",),
    "net": ("is_groups", "Net"),
    "acts": ("check_act",),
    "world": ("World",),
    "schedule": ("parse_schedule", "act_line", "run_schedule"),
    "history": ("History",),
    "judge": ("view_fault", "deliver_fault", "cause_fault", "together_fault", "own_fault", "judge"),
}

# The methods that the interface lists for a class stand in the body of the class itself (L5).
METHODS = {
    ("cells", "Cells"): ("read", "write", "arm", "crash"),
    ("watch", "Watch"): ("heard", "knows", "tick", "reach"),
    ("order", "Order"): ("cast", "take", "heard", "again", "log", "pending"),
    ("change", "Attempt"): ("add", "missing", "ready", "finals"),
    ("member", "Member"): ("member", "view", "frozen", "cast", "tick", "receive", "log", "waiting", "events"),
    ("net", "Net"): ("send", "take", "double", "move", "packets", "part", "heal", "joined", "groups"),
    ("world", "World"): ("act", "time", "packets", "groups", "is_up", "member", "disk", "views", "history"),
    ("history", "History"): ("add", "events"),
}

BUILTINS = set(
    "len range enumerate zip min max sum abs sorted reversed int str bool bytes list tuple dict set frozenset "
    "isinstance ord repr any all divmod pow map iter next super property staticmethod classmethod type getattr "
    "hasattr setattr Exception ValueError TypeError KeyError IndexError LookupError ZeroDivisionError "
    "ArithmeticError OverflowError RuntimeError NotImplementedError AttributeError StopIteration "
    "NotImplemented".split())

LIBRARY = ("heapq", "math", "itertools", "collections", "__future__")

WORDS = re.compile(r"\b(typing|typing_extensions|enum|Enum|IntEnum|StrEnum|Flag|IntFlag|Generic|Protocol|ABC|ABCMeta"
                   r"|namedtuple|NamedTuple|TypedDict|TYPE_CHECKING|abstractmethod|_wall|_WallAttr)\b"
                   r"|dataclass|overload|contextmanager")

BARRED_NODES = (ast.AsyncFunctionDef, ast.AsyncFor, ast.AsyncWith, ast.Await, ast.Div, ast.MatMult, ast.Import)


def package_files():
    return sorted(PACKAGE.rglob("*.py"))


def nodes_of(path):
    return list(ast.walk(ast.parse(path.read_text("ascii"))))


class LanguageTest(unittest.TestCase):
    def check_each(self, find):
        """Fail if the function finds anything in a file of the package."""
        for path in package_files():
            with self.subTest(file=path.name):
                self.assertEqual(list(find(path)), [])

    def check_each_node(self, kind, is_wrong):
        def find(path):
            return [node.lineno for node in nodes_of(path) if isinstance(node, kind) and is_wrong(node)]
        self.check_each(find)

    def test_the_package_holds_only_its_files(self):
        names = [path.name for path in PACKAGE.rglob("*") if "__pycache__" not in path.parts]
        self.assertIn("__init__.py", names)
        for name in names:
            self.assertRegex(name, r"\A([a-z][a-z0-9_]*|__init__|__main__)(\.py)?\Z")

    def test_characters_and_sizes_of_files(self):
        for path in package_files():
            with self.subTest(file=path.name):
                text = path.read_bytes()
                self.assertTrue(all(byte == 10 or 32 <= byte <= 126 for byte in text))
                lines = text.split(b"\n")
                self.assertLess(len(lines), 400)
                self.assertLessEqual(max(map(len, lines)), 120)

    def test_sizes_of_functions(self):
        self.check_each_node(ast.FunctionDef, lambda node: node.end_lineno - node.lineno >= 40)

    def test_imports_name_modules_of_the_package(self):
        def is_wrong(node):
            own = (node.module or "").startswith("mustercall.") and not node.module.endswith(".__main__")
            barred = node.level > 0 or any(part.name == "*" or part.asname for part in node.names)
            return barred or not (own or node.module in LIBRARY)
        self.check_each_node(ast.ImportFrom, is_wrong)

    def test_statements_and_signs(self):
        self.check_each_node(BARRED_NODES, lambda node: True)

    def test_numbers_are_integers(self):
        self.check_each_node(ast.Constant, lambda node: isinstance(node.value, (float, complex)))

    def test_no_string_has_the_character_with_code_37(self):
        self.check_each_node(ast.Constant, lambda node: isinstance(node.value, str) and chr(37) in node.value)

    def test_exponents_are_literals(self):
        def is_wrong(node):
            is_power = isinstance(node.op, ast.Pow)
            return is_power and not (isinstance(node.right, ast.Constant) and 0 <= node.right.value <= 64)
        self.check_each_node(ast.BinOp, is_wrong)

    def test_builtins(self):
        barred = set(dir(builtins)) - BUILTINS - {"__name__"}
        self.check_each_node(ast.Name, lambda node: node.id in barred)

    def test_no_parameter_has_the_name_of_a_builtin(self):
        self.check_each_node(ast.arg, lambda node: node.arg in dir(builtins))

    def test_words(self):
        self.check_each(lambda path: WORDS.findall(path.read_text("ascii")))

    def test_functions_are_not_decorated(self):
        allowed = {"property", "staticmethod", "classmethod"}

        def is_wrong(node):
            return any(getattr(each, "id", "setter") not in allowed | {"setter"} for each in node.decorator_list)
        self.check_each_node((ast.FunctionDef, ast.ClassDef), is_wrong)

    def test_the_interface_is_defined_in_its_files(self):
        for name, defined in INTERFACE.items():
            with self.subTest(file=name):
                body = ast.parse((PACKAGE / f"{name}.py").read_text("ascii")).body
                found = {node.name for node in body if isinstance(node, (ast.FunctionDef, ast.ClassDef))}
                self.assertEqual(set(defined) - found, set())

    def test_the_methods_of_the_interface_are_defined_in_their_classes(self):
        for (name, wanted), methods in METHODS.items():
            with self.subTest(file=name, wanted=wanted):
                found = [node for node in nodes_of(PACKAGE / f"{name}.py")
                         if isinstance(node, ast.ClassDef) and node.name == wanted]
                self.assertEqual(len(found), 1)
                names = {node.name for node in found[0].body if isinstance(node, ast.FunctionDef)}
                self.assertEqual(set(methods) - names, set())


if __name__ == "__main__":
    unittest.main()
