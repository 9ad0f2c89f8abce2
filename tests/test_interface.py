"""The interface of the document: names, places and arguments; and [4], the errors."""

import importlib
import inspect
import unittest

from toldthere import errors

REQUIRED = inspect.Parameter.empty
FUNCTIONS = {
    "looks": {"has": ["columns", "name", "values"], "same": ["columns", "first", "second"],
              "numbered": ["columns", "numbers"], "every": ["columns"]},
    "partings": {"steady": ["plan"], "parting": ["plan"], "healed": ["plan"], "halts": ["plan"],
                 "wide": ["plan", "least"], "twice": ["plan", "index"], "without": ["plan", "index"]},
    "spreads": {"spread": ["plan"]},
    "mends": {"mends": ["plan"]},
    "endings": {"endings": ["plan", "table"], "alike": ["first", "second"], "unlike": ["first", "second"]},
    "weavings": {"weavings": ["dealings"], "woven": ["dealings", "level"], "least_level": ["dealings"]},
    "texts": {"text": ["thing"], "read": ["written"]},
}
# For each class its arguments by position, those by name alone with their defaults, and its methods.
CLASSES = {
    "columns": {"Columns": (["told", "free"], {}, {"names": [], "told_values": ["name"], "is_row": ["thing"]},
                            ["len", "contains", "eq"])},
    "tables": {"Table": (["columns", "rows"], {"following": None}, {"rows": [], "numbers": []},
                         ["getitem", "contains", "len", "eq"])},
    "looks": {"Look": (None, None, {},
                       ["and", "or", "sub", "xor", "invert", "eq", "le", "lt", "ge", "gt", "call"])},
    "statements": {
        "Put": (["columns", "row"], {"when": None, "how": "words"}, {"told": ["how"], "by_number": []}, ["eq"]),
        "Drop": (["look"], {"most": None, "by": (), "when": None, "must": False, "how": "words"},
                 {"told": ["how"], "by_number": []}, ["eq"]),
        "Change": (["look", "changes"], {"by": (), "when": None, "must": False, "how": "words"},
                   {"told": ["how"], "by_number": []}, ["eq"]),
        "Trigger": (["look", "change"], {}, {}, ["eq"])},
    "scripts": {"Script": (["columns", "statements"], {"here": (), "there": ()},
                           {"statements": [], "exchanged": ["index", "statement"]},
                           ["getitem", "len", "add", "iadd", "eq"])},
    "partings": {"Parting": (["start", "here", "there", "halted", "home", "copy"], {}, {}, [])},
    "weavings": {"Dealings": (["columns", "dealings"], {"here": (), "there": ()},
                              {"statements": [], "alone": ["d"], "told": ["how"]}, ["len", "eq"]),
                 "Woven": (["weaving", "parting"], {}, {}, [])},
    "stores": {
        "Home": (["table"], {"triggers": (), "level": "rows", "words": None, "lying": None},
                 {"begin": [], "run": ["statement"], "open_dealings": [], "entries": [], "triggers": [],
                  "set_triggers": ["triggers"]}, ["len", "getitem"]),
        "Dealing": (None, None, {"run": ["statement"], "taken": [], "end": [], "undo": []}, []),
        "Entry": (None, None, {}, []),
        "Copy": (["table"], {"place": 0, "triggers": (), "words": None, "lying": None},
                 {"step": ["home"], "again": ["home"], "skip": [], "behind": ["home"]}, [])},
}
ERRORS = {
    "BadColumns": ["index"], "NoColumn": ["name"], "BadNumber": ["number"], "BadRow": ["number"],
    "BadFollowing": ["following"], "NoRow": ["number"], "BadLook": ["given"], "UnlikeColumns": [],
    "BadStatement": ["part"], "BadTrigger": ["part"], "BadScript": ["index"], "NoStatement": ["index"],
    "NotPlain": ["index"], "BadDealings": ["index"], "BadLevel": ["level"], "BadOrder": ["order"], "BadWord": ["word"],
    "Barred": ["dealing"], "Busy": [], "Closed": [], "Halted": ["place"], "NoEntry": ["place"], "NoWords": [],
    "Refused": [], "BadText": ["line"]}


def module(name):
    return importlib.import_module(f"toldthere.{name}")


class InterfaceTest(unittest.TestCase):
    def check_parameters(self, thing, positional, named, bound=False):
        parameters = list(inspect.signature(thing).parameters.values())[1 if bound else 0:]
        self.assertEqual([one.name for one in parameters if one.kind == one.POSITIONAL_OR_KEYWORD], positional)
        self.assertEqual({one.name: one.default for one in parameters if one.kind == one.KEYWORD_ONLY}, named)

    def test_functions(self):
        for name, functions in FUNCTIONS.items():
            for function, arguments in functions.items():
                with self.subTest(module=name, function=function):
                    found = getattr(module(name), function)
                    self.assertTrue(inspect.isfunction(found))
                    self.assertEqual(found.__module__, f"toldthere.{name}")
                    self.check_parameters(found, arguments, {})
                    self.assertTrue(all(one.default is REQUIRED for one in inspect.signature(found).parameters.values()))

    def test_classes(self):
        for name, classes in CLASSES.items():
            for one, (positional, named, methods, signs) in classes.items():
                with self.subTest(module=name, one=one):
                    found = getattr(module(name), one)
                    self.assertEqual(found.__module__, f"toldthere.{name}")
                    self.assertEqual(found.__bases__, (object,))
                    if positional is not None:
                        self.check_parameters(found, positional, named)
                    for method, arguments in methods.items():
                        self.check_parameters(vars(found)[method], arguments, {}, bound=True)
                    for sign in signs:
                        self.assertIn(f"__{sign}__", vars(found))

    def test_follow_and_properties(self):
        stores = module("stores")
        self.check_parameters(vars(stores.Copy)["follow"], ["home"], {"upto": None}, bound=True)
        for one in (stores.Home, stores.Copy):
            self.assertIsInstance(vars(one)["table"], property)

    def test_errors(self):
        found = {name for name, thing in vars(errors).items() if inspect.isclass(thing)}
        self.assertEqual(found, {"ToldError", *ERRORS})
        self.assertEqual(errors.ToldError.__bases__, (ValueError,))
        for name, attributes in ERRORS.items():
            error = getattr(errors, name)
            self.assertEqual(error.__bases__, (errors.ToldError,))
            things = [[name, 1]] * len(attributes)
            for made in (error(*things), error(**dict(zip(attributes, things)))):
                self.assertEqual(vars(made), dict(zip(attributes, things)))
