"""Columns, looks and parts of statements that several tests use."""

from toldthere.columns import Columns
from toldthere.looks import has

MOMENT, THROW = ("moment",), ("throw",)


def make():
    return Columns([("state", ["new", "old"]), ("past", ["new", "old"])], ["owner"])


C = make()
NEW, OLD = has(C, "state", ["new"]), has(C, "state", ["old"])
OTHER = Columns([("state", ["new", "old"])], ["owner"])
TURNED = Columns([("state", ["old", "new"]), ("past", ["new", "old"])], ["owner"])
ROW = ("new", "old", "anna")
AGE = {"state": ("value", "old")}
GUARD = ("some", OLD)


def sources_that_are_none():
    """For each column things that are no source of its words."""
    both = [(), [], "value", "moment", None, 0, True, {}, {"value": "new"}, {0: "moment"}, ("value",), ("column",),
            ("value", "new", "new"), ("column", "state", "state"), ("moment", None), ("throw", "new"),
            ("moment", "throw"), ("word", "new"), ("Value", "new"), ("new",), (None,), (True, "new"),
            (["value"], "new"), ("value", ["new"]), ("column", ["state"]), ("column", "number"), ("column", "none"),
            ("column", None), ("column", 0), ("column", NEW), ("value", None), ("value", ""), ("value", "Old"),
            ("value", "ninechars"), "new", (("moment",),), (("throw",),), ["moments"], NEW, C, ROW,
            ("word", "past"), ("word", "owner"), ("Column", "state"), (None, "owner"), (["column"], "past")]
    told = [MOMENT, THROW, ["moment"], ["throw"], ("value", "anna"), ("value", "number"), ("column", "owner")]
    free = [("column", "state"), ["column", "past"], ("value", True), ("value", 1)]
    return [("state", thing) for thing in both + told] + [("owner", thing) for thing in both + free]
