"""The limits of ../shared/LANGUAGE.md that a look at the files can tell."""

import ast
import re
import unittest
from pathlib import Path

PACKAGE = Path(__file__).resolve().parent.parent / "toldthere"
LIBRARY = ("heapq", "math", "itertools")


def files():
    return sorted(path for path in PACKAGE.rglob("*") if path.is_file() and path.parent.name != "__pycache__")


def trees():
    return [(path, ast.parse(path.read_text(encoding="ascii"))) for path in files()]


def nodes_of(parsed, kind):
    return [node for tree in parsed for node in ast.walk(tree) if isinstance(node, kind)]


def builtin_methods():
    return {name for known in (str, bytes, int, list, tuple, dict, set) for name in dir(known)}


def own_methods(parsed):
    """The names of the methods that classes define; a property is read without a call."""
    names = set()
    for made in nodes_of(parsed, ast.ClassDef):
        names |= {part.name for part in made.body if isinstance(part, ast.FunctionDef) and not part.decorator_list}
    return names


def stored_attributes(parsed):
    return {node.attr for node in nodes_of(parsed, ast.Attribute) if isinstance(node.ctx, ast.Store)}


def uncalled_methods(tree, methods):
    """The lines on which a method is read and not called on the spot; an own one may be passed as a key."""
    calls = nodes_of([tree], ast.Call)
    called = {id(call.func) for call in calls}
    keys = {id(word.value) for call in calls for word in call.keywords if word.arg == "key"}
    return [node.lineno for node in nodes_of([tree], ast.Attribute)
            if isinstance(node.ctx, ast.Load) and node.attr in methods and id(node) not in called
            and (id(node) not in keys or node.attr in builtin_methods())]


class LanguageTest(unittest.TestCase):
    def test_files_and_characters(self):
        for path in files():
            with self.subTest(path.name):
                self.assertTrue(re.fullmatch(r"[a-z0-9_]+\.py", path.name))
                self.assertIsNone(re.search(r"[^ -~\n]", path.read_bytes().decode("latin-1")))

    def test_sizes(self):
        for path in files():
            lines = path.read_text(encoding="ascii").splitlines()
            self.assertLessEqual(len(lines), 399, path.name)
            self.assertLessEqual(max(map(len, lines), default=0), 120, path.name)
        for path, tree in trees():
            for node in ast.walk(tree):
                if isinstance(node, ast.FunctionDef):
                    self.assertLessEqual(node.end_lineno - node.lineno + 1, 40, f"{path.name}: {node.name}")

    def test_imports(self):
        for path, tree in trees():
            for node in ast.walk(tree):
                with self.subTest(path.name):
                    self.assertNotIsInstance(node, ast.Import)
                    if isinstance(node, ast.ImportFrom):
                        self.assertEqual(node.level, 0)
                        self.assertIn(node.module.split(".")[0], ("toldthere",) + LIBRARY)

    def test_methods_are_called_where_they_stand(self):
        parsed = [tree for _, tree in trees()]
        # What is a method of one class may be an attribute of another one, and then be read.
        methods = (builtin_methods() | own_methods(parsed)) - stored_attributes(parsed)
        for path, tree in trees():
            self.assertEqual(uncalled_methods(tree, methods), [], path.name)

    def test_kept_methods_are_noticed(self):
        made = ast.parse("class Box:\n    def told(self):\n        return 1\n")
        methods = builtin_methods() | own_methods([made])
        kept = ["told = box.told", "step, told = box.step, box.step.told", "each(box.told)", "each(row.append)",
                "sorted(rows, key=row.count)"]
        for line in kept:
            with self.subTest(line):
                self.assertEqual(uncalled_methods(ast.parse(line), methods), [1])
        for line in ["box.told()", "box.step.told()[0]", "sorted(rows, key=box.told)", "number = box.number"]:
            with self.subTest(line):
                self.assertEqual(uncalled_methods(ast.parse(line), methods), [])
