"""[3], [5] and [6]: columns."""

import unittest

from tests.samples import NO_WORDS, any_objects, check_equal, same_thing, table
from toldthere.columns import Columns
from toldthere.errors import BadColumns, NoColumn, ToldError

STATE = ("state", ["new", "old"])
KIND = ("kind", ["x", "y", "z"])
SIZE = ("size", ["big"])


class MadeTest(unittest.TestCase):
    def check(self, columns, names, values):
        self.assertEqual(columns.names(), names)
        self.assertEqual([columns.told_values(name) for name in names], values)

    def test_told_alone(self):
        self.check(Columns([STATE]), ["state"], [("new", "old")])
        self.check(Columns([STATE, SIZE]), ["state", "size"], [("new", "old"), ("big",)])
        self.check(Columns([KIND, STATE, SIZE]), ["kind", "state", "size"],
                   [("x", "y", "z"), ("new", "old"), ("big",)])

    def test_free_alone(self):
        self.check(Columns([], ["owner"]), ["owner"], [None])
        self.check(Columns([], ["owner", "buyer"]), ["owner", "buyer"], [None, None])

    def test_free_behind_told(self):
        self.check(Columns([STATE], ["owner"]), ["state", "owner"], [("new", "old"), None])
        self.check(Columns([STATE, KIND], ["a"]), ["state", "kind", "a"], [("new", "old"), ("x", "y", "z"), None])
        self.check(Columns([STATE], ["z", "a"]), ["state", "z", "a"], [("new", "old"), None, None])

    def test_tuples_and_lists_stand_for_one_another(self):
        expected = Columns([STATE, KIND], ["owner"])
        for told in ((STATE, KIND), [list(STATE), list(KIND)], (("state", ("new", "old")), ["kind", ("x", "y", "z")])):
            for free in (["owner"], ("owner",)):
                self.assertEqual(Columns(told, free), expected)

    def test_arguments_by_name(self):
        self.assertEqual(Columns(told=[STATE]), Columns([STATE]))
        self.assertEqual(Columns(free=["owner"], told=[STATE]), Columns([STATE], ["owner"]))
        self.assertEqual(Columns(told=(), free=("owner",)).names(), ["owner"])

    def test_shortest_and_longest_words(self):
        self.check(Columns([("a", ["b"]), ("abcdefgh", ["ijklmnop", "qrstuvwx", "yz"])]), ["a", "abcdefgh"],
                   [("b",), ("ijklmnop", "qrstuvwx", "yz")])

    def test_number_may_be_a_value(self):
        self.check(Columns([("state", ["number", "state"])]), ["state"], [("number", "state")])

    def test_two_columns_may_share_values(self):
        self.check(Columns([("a", ["x", "y"]), ("b", ["x", "y"])]), ["a", "b"], [("x", "y"), ("x", "y")])

    def test_arguments_are_not_changed_and_later_changes_have_no_effect(self):
        values = ["new", "old"]
        pair = ["state", values]
        told, free = [pair], ["owner"]
        columns = Columns(told, free)
        self.assertEqual((told, free), ([["state", ["new", "old"]]], ["owner"]))
        values[0] = "lost"
        values.append("sold")
        pair[0] = "other"
        told.append(KIND)
        free[0] = "buyer"
        free.append("last")
        self.check(columns, ["state", "owner"], [("new", "old"), None])
        self.assertEqual(len(columns), 2)
        self.assertTrue(columns.is_row(("new", "anna")))
        self.assertFalse(columns.is_row(("lost", "anna")))
        self.assertEqual(columns, Columns([STATE], ["owner"]))


class BadColumnsTest(unittest.TestCase):
    def wrong(self, index, told, free=()):
        with self.subTest(told=told, free=free):
            for shape in (list, tuple):
                with self.assertRaises(BadColumns) as caught:
                    Columns(shape(told), shape(free))
                self.assertEqual(caught.exception.index, index)
                self.assertIs(type(caught.exception.index), int)

    def wrong_told(self, thing):
        self.wrong(0, [thing])
        self.wrong(1, [STATE, thing, KIND], ["owner"])
        self.wrong(2, [STATE, KIND, thing])

    def test_no_column(self):
        self.wrong(0, [])
        self.wrong(0, [], [])
        with self.assertRaises(BadColumns) as caught:
            Columns([])
        self.assertEqual(caught.exception.index, 0)

    def test_no_pair(self):
        for thing in any_objects():
            self.wrong_told(thing)
        for thing in ["ab", ("size",), ("size", ["big"], "big"), ["size", ["big"], None], {"size": ["big"]},
                      {"size": 1, "big": 2}, {0: "size", 1: ["big"]}]:
            self.wrong_told(thing)

    def test_name_that_is_no_word(self):
        for name in NO_WORDS + any_objects()[:3]:
            self.wrong_told((name, ["big"]))
            self.wrong_told([name, ("big",)])

    def test_name_that_is_number(self):
        self.wrong_told(("number", ["big"]))
        self.wrong(0, [], ["number"])
        self.wrong(1, [STATE], ["number"])

    def test_name_that_stood_before(self):
        self.wrong(1, [STATE, STATE])
        self.wrong(1, [STATE, ("state", ["big"])])
        self.wrong(2, [STATE, KIND, ("state", ["big"])])
        self.wrong(2, [KIND, STATE, ("state", ["big"])])
        self.wrong(1, [STATE], ["state"])
        self.wrong(2, [STATE], ["owner", "state"])
        self.wrong(1, [], ["owner", "owner"])
        self.wrong(2, [STATE], ["owner", "owner"])

    def test_values_that_are_no_list(self):
        for values in any_objects():
            self.wrong_told(("size", values))
        for values in ["big", "abc", {"big": "big"}, {0: "big"}]:
            self.wrong_told(("size", values))

    def test_too_few_or_many_values(self):
        for values in [[], (), ["a", "b", "c", "d"], ("a", "b", "c", "d"), list("abcdefghij")]:
            self.wrong_told(("size", values))

    def test_values_that_stand_twice(self):
        for values in [["a", "a"], ["a", "b", "a"], ["b", "a", "a"], ("a", "a", "b"), ["a", "a", "a"]]:
            self.wrong_told(("size", values))

    def test_values_that_are_no_words(self):
        for word in NO_WORDS + any_objects():
            if word not in ("a", "number"):
                self.wrong_told(("size", [word]))
                self.wrong_told(("size", ["big", word]))
                self.wrong_told(("size", ("big", "small", word)))

    def test_free_that_is_no_word(self):
        for name in NO_WORDS + any_objects():
            if name != "a":
                self.wrong(0, [], [name])
                self.wrong(1, [], ["owner", name])
                self.wrong(1, [STATE], [name])
                self.wrong(2, [STATE, KIND], [name])
                self.wrong(2, [STATE], ["owner", name])

    def test_a_pair_is_no_free_column(self):
        self.wrong(1, [STATE], [KIND])

    def test_a_name_is_no_told_column(self):
        self.wrong(1, [STATE, "owner"])

    def test_fourth_column(self):
        self.wrong(3, [STATE, KIND, SIZE, ("last", ["a"])])
        self.wrong(3, [STATE, KIND, SIZE, None])
        self.wrong(3, [STATE, KIND, SIZE, ("last", ["a"]), None], ["owner"])
        self.wrong(3, [STATE, KIND, SIZE], ["owner"])
        self.wrong(3, [STATE, KIND, SIZE], ["state"])
        self.wrong(3, [STATE, KIND], ["owner", "buyer"])

    def test_third_free_column(self):
        self.wrong(2, [], ["a", "b", "c"])
        self.wrong(2, [], ["a", "b", None])
        self.wrong(2, [], ["a", "b", "c", "d"])
        self.wrong(3, [STATE], ["a", "b", "c"])

    def test_first_wrong_thing_of_several(self):
        self.wrong(0, [None, None, None, None], [None])
        self.wrong(1, [STATE, ("number", ["a"]), ("size", [])], ["state"])
        self.wrong(2, [STATE, KIND, STATE, SIZE], [None])
        self.wrong(1, [STATE], ["number", "state"])
        self.wrong(0, [("size", "big")], ["a", "b", "c"])
        self.wrong(2, [STATE], ["a", None, "c", "d"])
        self.wrong(1, [STATE, "b", KIND, SIZE])

    def test_error_changes_no_argument(self):
        told, free = [["state", ["new", "old"]], ["kind", []]], ["owner"]
        with self.assertRaises(ToldError):
            Columns(told, free)
        self.assertEqual((told, free), ([["state", ["new", "old"]], ["kind", []]], ["owner"]))


class AnswersTest(unittest.TestCase):
    def setUp(self):
        self.columns = Columns([STATE, KIND], ["owner"])

    def test_names_is_a_new_list(self):
        names = self.columns.names()
        self.assertIs(type(names), list)
        self.assertEqual(names, ["state", "kind", "owner"])
        names.clear()
        self.assertEqual(self.columns.names(), ["state", "kind", "owner"])
        self.assertEqual(len(self.columns), 3)

    def test_told_values(self):
        self.assertEqual(self.columns.told_values("state"), ("new", "old"))
        self.assertEqual(self.columns.told_values(name="kind"), ("x", "y", "z"))
        self.assertIs(type(self.columns.told_values("state")), tuple)
        self.assertIs(type(Columns([("state", ("new", "old"))]).told_values("state")), tuple)
        self.assertIsNone(self.columns.told_values("owner"))

    def test_told_values_keep_their_order(self):
        self.assertEqual(Columns([("a", ["z", "b", "m"])]).told_values("a"), ("z", "b", "m"))

    def test_no_column(self):
        for thing in any_objects() + NO_WORDS + ["number", "new", "x", "states", "stat", "State", ["state"],
                                                 ("state",), {"state": 1}, self.columns]:
            with self.subTest(thing=thing):
                with self.assertRaises(NoColumn) as caught:
                    self.columns.told_values(thing)
                self.assertTrue(same_thing(caught.exception.name, thing))

    def test_len(self):
        self.assertEqual(len(self.columns), 3)
        self.assertEqual(len(Columns([STATE])), 1)
        self.assertEqual(len(Columns([], ["a"])), 1)
        self.assertEqual(len(Columns([], ["a", "b"])), 2)
        self.assertEqual(len(Columns([STATE], ["a", "b"])), 3)

    def test_in(self):
        for name in ("state", "kind", "owner"):
            self.assertIs(name in self.columns, True)
            self.assertIs(name not in self.columns, False)

    def test_not_in(self):
        for thing in any_objects() + NO_WORDS + ["number", "new", ["state"], ("state",), {"state": 1}, self.columns]:
            with self.subTest(thing=thing):
                self.assertIs(thing in self.columns, False)

    def test_methods_stand_in_the_class(self):
        for method in ("__init__", "names", "told_values", "is_row", "__len__", "__contains__", "__eq__"):
            self.assertIn(method, Columns.__dict__)
        self.assertEqual(Columns.__module__, "toldthere.columns")


class RowTest(unittest.TestCase):
    def setUp(self):
        self.columns = Columns([STATE, KIND], ["owner"])

    def test_rows(self):
        for row in (("new", "x", "anna"), ("old", "z", "a"), ("old", "y", "number"), ("new", "x", "abcdefgh")):
            self.assertIs(self.columns.is_row(row), True)
            self.assertIs(self.columns.is_row(list(row)), True)
            self.assertIs(self.columns.is_row(thing=row), True)

    def test_rows_of_one_column(self):
        self.assertIs(Columns([STATE]).is_row(("new",)), True)
        self.assertIs(Columns([STATE]).is_row(["lost"]), False)
        self.assertIs(Columns([], ["a"]).is_row(["lost"]), True)
        self.assertIs(Columns([], ["a"]).is_row("a"), False)

    def test_words_that_cannot_stand_there(self):
        for row in (("lost", "x", "anna"), ("new", "new", "anna"), ("x", "new", "anna"), ("new", "w", "anna"),
                    ("new", "x", "Anna"), ("anna", "new", "x"), ("ne", "x", "anna"), ("newold", "x", "anna")):
            with self.subTest(row=row):
                self.assertIs(self.columns.is_row(row), False)
                self.assertIs(self.columns.is_row(list(row)), False)

    def test_objects_that_are_no_words(self):
        for thing in NO_WORDS + any_objects():
            with self.subTest(thing=thing):
                self.assertIs(self.columns.is_row((thing, "x", "anna")), False)
                self.assertIs(self.columns.is_row(["new", thing, "anna"]), False)
                self.assertIs(self.columns.is_row(("new", "x", thing)), thing in ("a", "number"))

    def test_one_word_too_few_or_many(self):
        for row in ((), ("new",), ("new", "x"), ("x", "anna"), ("new", "x", "anna", "anna"),
                    ("new", "x", "anna", None)):
            self.assertIs(self.columns.is_row(row), False)
            self.assertIs(self.columns.is_row(list(row)), False)

    def test_no_list(self):
        for thing in any_objects() + ["new", "abc", {"new": 1, "x": 2, "anna": 3}, {0: "new", 1: "x", 2: "anna"}]:
            with self.subTest(thing=thing):
                self.assertIs(self.columns.is_row(thing), False)
        self.assertIs(Columns([("a", ["x"]), ("b", ["y"])]).is_row("xy"), False)

    def test_row_is_not_changed(self):
        row = ["new", "x", "anna"]
        self.columns.is_row(row)
        self.assertEqual(row, ["new", "x", "anna"])


class EqualTest(unittest.TestCase):
    def test_same_names_and_values(self):
        columns = Columns([STATE, KIND], ["owner"])
        check_equal(self, columns, columns, True)
        check_equal(self, columns, Columns((["state", ("new", "old")], ("kind", ["x", "y", "z"])), ("owner",)), True)
        check_equal(self, Columns([], ["a", "b"]), Columns((), ("a", "b")), True)

    def test_another_order(self):
        check_equal(self, Columns([STATE, KIND]), Columns([KIND, STATE]), False)
        check_equal(self, Columns([], ["a", "b"]), Columns([], ["b", "a"]), False)
        check_equal(self, Columns([("a", ["x", "y"])]), Columns([("a", ["y", "x"])]), False)

    def test_other_names_or_values(self):
        one = Columns([STATE, KIND])
        for other in (Columns([STATE]), Columns([KIND]), Columns([STATE, SIZE]), Columns([STATE, KIND, SIZE]),
                      Columns([STATE, KIND], ["owner"]), Columns([STATE], ["kind"]), Columns([], ["state", "kind"]),
                      Columns([("state", ["new"]), KIND]), Columns([("state", ["new", "old", "lost"]), KIND]),
                      Columns([("state", ["new", "lost"]), KIND]), Columns([("stat", ["new", "old"]), KIND]),
                      Columns([("state", ["x", "y", "z"]), ("kind", ["new", "old"])])):
            check_equal(self, one, other, False)

    def test_free_and_told_are_unlike(self):
        check_equal(self, Columns([], ["a"]), Columns([("a", ["a"])]), False)

    def test_other_objects(self):
        one = Columns([STATE, KIND])
        for other in any_objects() + [["state", "kind"], [STATE, KIND], ("state", "kind"),
                                      {"state": ("new", "old"), "kind": ("x", "y", "z")}, table()]:
            check_equal(self, one, other, False)
