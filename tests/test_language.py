"""The limits of ../shared/LANGUAGE.md that a look at the files can tell."""

import ast
import re
import unittest
from pathlib import Path

PACKAGE = Path(__file__).resolve().parent.parent / "toldthere"
LIBRARY = ("heapq", "math", "itertools")


def files():
    return sorted(path for path in PACKAGE.rglob("*") if path.is_file() and path.parent.name != "__pycache__")


def trees():
    return [(path, ast.parse(path.read_text(encoding="ascii"))) for path in files()]


class LanguageTest(unittest.TestCase):
    def test_files_and_characters(self):
        for path in files():
            with self.subTest(path.name):
                self.assertTrue(re.fullmatch(r"[a-z0-9_]+\.py", path.name))
                self.assertIsNone(re.search(r"[^ -~\n]", path.read_bytes().decode("latin-1")))

    def test_sizes(self):
        for path in files():
            lines = path.read_text(encoding="ascii").splitlines()
            self.assertLessEqual(len(lines), 399, path.name)
            self.assertLessEqual(max(map(len, lines), default=0), 120, path.name)
        for path, tree in trees():
            for node in ast.walk(tree):
                if isinstance(node, ast.FunctionDef):
                    self.assertLessEqual(node.end_lineno - node.lineno + 1, 40, f"{path.name}: {node.name}")

    def test_imports(self):
        for path, tree in trees():
            for node in ast.walk(tree):
                with self.subTest(path.name):
                    self.assertNotIsInstance(node, ast.Import)
                    if isinstance(node, ast.ImportFrom):
                        self.assertEqual(node.level, 0)
                        self.assertIn(node.module.split(".")[0], ("toldthere",) + LIBRARY)
