"""Objects that the tests pass where a point says: any object; and what several tests check."""

from toldthere.columns import Columns
from toldthere.errors import BadColumns, NoColumn, UnlikeColumns
from toldthere.looks import every, has
from toldthere.scripts import Script
from toldthere.statements import Change, Drop, Put, Trigger
from toldthere.tables import Table

LONG = 10 ** 40 + 7
LONGER = 10 ** 90 + 7

# Each is no word of one to eight lower-case letters.
NO_WORDS = ["", "ninechars", "State", "a b", "a1", "a_", "-", " a", "a\n", "caf\u00e9", "\u03b1", "\uff41", "\u00df",
            None, True, False, 0, 1, [], ["a"], ("a",), {}, {"a": "a"}]


def columns():
    return Columns([("state", ["new", "old"]), ("kind", ["x", "y", "z"])], ["owner"])


def table():
    return Table(columns(), {1: ("new", "x", "anna"), 3: ("old", "y", "bert")})


def plain_objects():
    return [0, 1, -1, 2, 17, LONG, -LONG, LONGER, True, False, "", "a", "number", "no word", "caf\u00e9", None, [], (),
            [1], (1, 2), ["a", ["b", ("c", None)]], (True, [False]), {}, {1: "a"}, {"a": [1, {"b": None}]}]


def any_objects():
    """Objects of each kind that [3] lists, also one inside another."""
    put, look = Put(columns(), ("new", "x", "anna")), has(columns(), "owner", ["bert"])
    own = [columns(), table(), Table(columns(), {}), BadColumns(1), NoColumn(["a"]), UnlikeColumns(), look,
           every(Columns([], ["a"])), put, Drop(look), Change(look, {}), Trigger(look, {}), Script(columns(), [put])]
    return plain_objects() + own + [[columns()], (table(), 1), {"a": columns()}, [look], (put,)]


def same_thing(one, other):
    """Whether an object is another one or a copy of it, a list perhaps exchanged for a tuple."""
    if one is other:
        return True
    if isinstance(one, (list, tuple)) and isinstance(other, (list, tuple)):
        return len(one) == len(other) and all(same_thing(a, b) for a, b in zip(one, other))
    if isinstance(one, dict) and isinstance(other, dict):
        return list(one) == list(other) and all(same_thing(one[key], other[key]) for key in one)
    return type(one) is type(other) and one == other


def check_equal(test, one, other, equal):
    """Checks == and != of two things from both sides."""
    with test.subTest(one=one, other=other):
        test.assertIs(one == other, equal)
        test.assertIs(other == one, equal)
        test.assertIs(one != other, not equal)
        test.assertIs(other != one, not equal)
