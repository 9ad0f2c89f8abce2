"""[4]: the errors."""

import unittest

import toldthere.errors
from tests.samples import any_objects, same_thing
from toldthere.errors import ToldError

# The attribute of each error, None if it has none.
LISTED = {
    "BadColumns": "index", "NoColumn": "name", "BadNumber": "number", "BadRow": "number",
    "BadFollowing": "following", "NoRow": "number", "BadLook": "given", "UnlikeColumns": None,
    "BadStatement": "part", "BadTrigger": "part", "BadScript": "index", "NoStatement": "index",
    "NotPlain": "index", "BadDealings": "index", "BadLevel": "level", "BadOrder": "order",
    "BadWord": "word", "Barred": "dealing", "Busy": None, "Closed": None, "Halted": "place",
    "NoEntry": "place", "NoWords": None, "Refused": None, "BadText": "line",
}


def error_class(name):
    return getattr(toldthere.errors, name)


def made(name, thing=0):
    if LISTED[name] is None:
        return error_class(name)()
    return error_class(name)(thing)


class ErrorsTest(unittest.TestCase):
    def test_base_is_a_value_error(self):
        self.assertEqual(ToldError.__bases__, (ValueError,))
        self.assertIsInstance(ToldError(), ValueError)

    def test_each_stands_directly_under_the_base(self):
        for name in LISTED:
            with self.subTest(name):
                self.assertEqual(error_class(name).__bases__, (ToldError,))
                self.assertEqual(error_class(name).__module__, "toldthere.errors")
                self.assertEqual(error_class(name).__name__, name)

    def test_each_is_of_its_own_class_and_of_no_other(self):
        for name in LISTED:
            error = made(name)
            self.assertIsInstance(error, ToldError)
            self.assertIsInstance(error, ValueError)
            for other in LISTED:
                with self.subTest(name, other=other):
                    self.assertEqual(isinstance(error, error_class(other)), name == other)

    def test_each_is_raised_and_caught_by_its_name(self):
        for name in LISTED:
            for caught in (error_class(name), ToldError, ValueError):
                with self.subTest(name, caught=caught):
                    with self.assertRaises(caught):
                        raise made(name)

    def test_made_by_position_keeps_any_object(self):
        for name, attribute in LISTED.items():
            for thing in any_objects() if attribute else []:
                with self.subTest(name, thing=thing):
                    self.assertTrue(same_thing(getattr(error_class(name)(thing), attribute), thing))

    def test_made_by_name_keeps_any_object(self):
        for name, attribute in LISTED.items():
            for thing in any_objects() if attribute else []:
                with self.subTest(name, thing=thing):
                    error = error_class(name)(**{attribute: thing})
                    self.assertTrue(same_thing(getattr(error, attribute), thing))

    def test_made_without_attributes(self):
        for name, attribute in LISTED.items():
            if attribute is None:
                with self.subTest(name):
                    self.assertIs(type(error_class(name)()), error_class(name))

    def test_two_of_a_class_keep_their_own(self):
        for name, attribute in LISTED.items():
            if attribute is not None:
                with self.subTest(name):
                    one, other = error_class(name)(1), error_class(name)("b")
                    self.assertEqual(getattr(one, attribute), 1)
                    self.assertEqual(getattr(other, attribute), "b")
