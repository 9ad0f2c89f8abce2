"""[14] and [3]: how triggers are made, refused and compared."""

import unittest

from tests.parts import AGE, C, MOMENT, NEW, OLD, OTHER, THROW, TURNED, make, sources_that_are_none
from tests.samples import any_objects, check_equal
from toldthere.errors import BadTrigger
from toldthere.looks import every, has, numbered
from toldthere.statements import Drop, Trigger


class MadeTest(unittest.TestCase):
    def test_changes(self):
        for change in ({}, AGE, {"state": ["column", "past"]}, {"owner": ("value", "moment")},
                       {"owner": ("column", "owner"), "past": ("value", "new"), "state": ("column", "state")}):
            one = Trigger(NEW, change)
            self.assertIs(type(one), Trigger)
            check_equal(self, one, Trigger(change=change, look=NEW), True)

    def test_methods_stand_in_the_class(self):
        self.assertEqual(Trigger.__module__, "toldthere.statements")
        self.assertIn("__init__", Trigger.__dict__)
        self.assertIn("__eq__", Trigger.__dict__)


class WrongTest(unittest.TestCase):
    def wrong(self, part, look, change):
        with self.subTest(look=look, change=change):
            with self.assertRaises(BadTrigger) as caught:
                Trigger(look, change)
            self.assertEqual(caught.exception.part, part)

    def test_look(self):
        for look in any_objects() + ["state", ("some", NEW), [NEW], AGE, Drop(NEW)]:
            if not hasattr(look, "found"):
                self.wrong("look", look, AGE)
                self.wrong("look", look, None)
                self.wrong("look", look, {"owner": MOMENT})

    def test_new_words(self):
        for source in (MOMENT, THROW, ["moment"], ["throw"]):
            self.wrong("change", NEW, {"owner": source})
            self.wrong("change", NEW, {"state": ("value", "old"), "owner": source})
            self.wrong("change", NEW, {"owner": source, "state": ("value", "old")})

    def test_no_change(self):
        for change in any_objects() + [[], [AGE], [AGE, AGE], (AGE,), [{}], NEW, Drop(NEW), Trigger(NEW, AGE)]:
            if change != {}:
                self.wrong("change", NEW, change)
        for change in ({"number": ("value", "old")}, {None: ("value", "old")}, {0: ("value", "old")},
                       {"states": ("value", "old")}, {"state": ("value", "old"), "last": ("value", "old")}):
            self.wrong("change", NEW, change)

    def test_sources(self):
        for name, source in sources_that_are_none():
            self.wrong("change", NEW, {name: source})
            self.wrong("change", NEW, {"past": ("value", "old"), name: source})

    def test_change_that_cannot_stand_over_the_columns_of_the_look(self):
        Trigger(NEW, {"past": ("value", "old")})
        self.wrong("change", every(OTHER), {"past": ("value", "old")})
        self.wrong("change", every(OTHER), {"state": ("column", "past")})
        Trigger(NEW, {"state": ("column", "past")})
        self.wrong("change", every(TURNED), {"state": ("column", "past")})


class EqualTest(unittest.TestCase):
    def test_looks_by_what_they_find(self):
        check_equal(self, Trigger(NEW, AGE), Trigger(~has(make(), "state", ["old"]), {"state": ["value", "old"]}), True)

    def test_changes_in_any_order(self):
        check_equal(self, Trigger(NEW, {"state": ("value", "old"), "past": ("column", "state")}),
                    Trigger(NEW, {"past": ("column", "state"), "state": ("value", "old")}), True)

    def test_each_part(self):
        one = Trigger(NEW, AGE)
        for other in (Trigger(OLD, AGE), Trigger(NEW - numbered(C, [4]), AGE), Trigger(NEW, {}),
                      Trigger(NEW, {"state": ("value", "new")}), Trigger(NEW, {"past": ("value", "old")}),
                      Trigger(NEW, {"state": ("column", "state")}), Trigger(has(OTHER, "state", ["new"]), AGE),
                      Trigger(has(TURNED, "state", ["new"]), AGE),
                      Trigger(NEW, {"state": ("value", "old"), "owner": ("value", "anna")})):
            check_equal(self, one, other, False)

    def test_other_objects(self):
        one = Trigger(NEW, AGE)
        for other in any_objects() + [NEW, AGE, (NEW, AGE), [NEW, AGE], [one], (one,), Drop(NEW)]:
            check_equal(self, one, other, False)


class CopiedTest(unittest.TestCase):
    def test_later_changes_have_no_effect(self):
        source = ["value", "old"]
        change = {"state": source}
        one = Trigger(NEW, change)
        self.assertEqual(change, {"state": ["value", "old"]})
        source[1] = "new"
        change["past"] = ("value", "old")
        check_equal(self, one, Trigger(NEW, AGE), True)
