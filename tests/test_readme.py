"""The examples of README.md."""

import doctest
import unittest
from pathlib import Path

README = Path(__file__).resolve().parent.parent / "README.md"


class ReadmeTest(unittest.TestCase):
    def test_examples(self):
        found = doctest.testfile(str(README), module_relative=False, encoding="utf-8")
        self.assertEqual(found.failed, 0)
        self.assertGreater(found.attempted, 0)
