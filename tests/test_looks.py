"""[8], [9] and [3]: looks."""

import itertools
import operator
import random
import time
import unittest

from tests.samples import LONG, NO_WORDS, any_objects, check_equal, columns, same_thing
from toldthere.columns import Columns
from toldthere.errors import BadLook, NoColumn, UnlikeColumns
from toldthere.looks import Look, every, has, numbered, same

TOLD = Columns([("a", ["x", "y"]), ("b", ["x", "y"]), ("c", ["y", "x"])])
FREE = Columns([("state", ["new", "old"])], ["seller", "buyer"])
# Two words more than looks below name, since two columns can have unlike ones.
WORDS = ["anna", "bert", "carl", "dora", "new", "other", "another"]
NUMBERS = [1, 2, 3, 4, 5, 6, 77, LONG]


def rows(of):
    return list(itertools.product(*[of.told_values(name) or WORDS for name in of.names()]))


def points(of):
    return [(row, number) for row in rows(of) for number in NUMBERS]


class LookCase(unittest.TestCase):
    def finds(self, look, wanted):
        """Checks for all rows and numbers that a look finds what a function tells."""
        for row, number in points(look.columns):
            found = look(row, number)
            if found is not wanted(row, number):
                self.fail(f"{row} with {number}: {found}")

    def wrong(self, error, thing, make, *arguments):
        """Checks that a call raises an error that keeps an object."""
        with self.subTest(arguments=arguments):
            with self.assertRaises(error) as caught:
                make(*arguments)
            self.assertTrue(same_thing(list(vars(caught.exception).values()), [thing]))


class SimpleLooksTest(LookCase):
    def test_has_in_a_column_with_told_values(self):
        self.finds(has(columns(), "state", ["old"]), lambda row, number: row[0] == "old")
        self.finds(has(columns(), "kind", ["z"]), lambda row, number: row[1] == "z")
        self.finds(has(columns(), "kind", ["z", "x"]), lambda row, number: row[1] != "y")
        self.finds(has(columns(), "kind", ["z", "x", "y"]), lambda row, number: True)

    def test_has_in_a_free_column(self):
        self.finds(has(columns(), "owner", ["anna"]), lambda row, number: row[2] == "anna")
        self.finds(has(columns(), "owner", ("anna", "x", "carl")), lambda row, number: row[2] in ("anna", "carl"))
        self.finds(has(FREE, "buyer", ["bert"]), lambda row, number: row[2] == "bert")
        self.finds(has(FREE, "seller", ["new"]), lambda row, number: row[1] == "new")

    def test_has_with_many_values(self):
        many = ["".join(word) for word in itertools.product("abcdefghij", repeat=3)]
        look = has(columns(), "owner", many)
        self.assertIs(look(("new", "x", "jjj"), 1), True)
        self.assertIs(look(("new", "x", "jjk"), 1), False)

    def test_same(self):
        self.finds(same(TOLD, "a", "b"), lambda row, number: row[0] == row[1])
        self.finds(same(TOLD, "b", "a"), lambda row, number: row[0] == row[1])
        self.finds(same(FREE, "seller", "buyer"), lambda row, number: row[1] == row[2])
        self.finds(same(FREE, "buyer", "seller"), lambda row, number: row[1] == row[2])
        apart = Columns([("a", ["x", "y", "z"]), ("b", ["x", "w"]), ("c", ["x", "y", "z"])])
        self.finds(same(apart, "a", "c"), lambda row, number: row[0] == row[2])
        self.finds(same(apart, "c", "a"), lambda row, number: row[0] == row[2])

    def test_numbered(self):
        self.finds(numbered(columns(), [1]), lambda row, number: number == 1)
        self.finds(numbered(columns(), [4]), lambda row, number: number == 4)
        self.finds(numbered(columns(), (3, 1)), lambda row, number: number in (1, 3))
        self.finds(numbered(columns(), [1, 2, 3, 4]), lambda row, number: number < 5)
        self.finds(numbered(columns(), [2, 2, 4, 2, 4, 2, 2]), lambda row, number: number in (2, 4))
        self.finds(numbered(Columns([], ["a"]), [2]), lambda row, number: number == 2)

    def test_every(self):
        for of in (columns(), TOLD, FREE, Columns([("a", ["x"])])):
            self.finds(every(of), lambda row, number: True)

    def test_rows_are_tuples_or_lists(self):
        for look in (has(FREE, "state", ["new"]), has(FREE, "buyer", ["anna"]), same(FREE, "seller", "buyer"),
                     ~numbered(FREE, [1]), every(FREE)):
            for row, number in points(FREE):
                given = list(row)
                self.assertIs(look(given, number), look(row, number))
                self.assertEqual(given, list(row))

    def test_arguments_by_name(self):
        self.assertEqual(has(values=["old"], name="state", columns=FREE), has(FREE, "state", ["old"]))
        self.assertEqual(same(second="buyer", columns=FREE, first="seller"), same(FREE, "seller", "buyer"))
        self.assertEqual(numbered(numbers=(2, 3), columns=FREE), numbered(FREE, [3, 2]))
        self.assertEqual(every(columns=FREE), every(FREE))
        self.assertIs(has(FREE, "state", ["old"])(number=3, row=("old", "anna", "bert")), True)

    def test_columns(self):
        for look in (has(FREE, "state", ["old"]), same(FREE, "seller", "buyer"), numbered(FREE, [1]), every(FREE),
                     every(FREE) & every(FREE), every(FREE) | every(FREE), every(FREE) - every(FREE),
                     every(FREE) ^ every(FREE), ~every(FREE)):
            self.assertIs(type(look), Look)
            self.assertEqual(look.columns, FREE)
            self.assertIn("columns", vars(look))

    def test_later_changes_have_no_effect(self):
        values, numbers = ["anna"], [2]
        look, other = has(FREE, "buyer", values), numbered(FREE, numbers)
        values[0] = "bert"
        values.append("carl")
        numbers[0] = 3
        numbers.append(1)
        self.assertEqual((values, numbers), (["bert", "carl"], [3, 1]))
        self.finds(look, lambda row, number: row[2] == "anna")
        self.finds(other, lambda row, number: number == 2)
        self.assertEqual(look, has(FREE, "buyer", ["anna"]))
        self.assertEqual(other, numbered(FREE, [2]))

    def test_methods_stand_in_the_class(self):
        for sign in ("and", "or", "sub", "xor", "invert", "eq", "le", "lt", "ge", "gt", "call"):
            self.assertIn(f"__{sign}__", Look.__dict__)
        for made in (Look, has, same, numbered, every):
            self.assertEqual(made.__module__, "toldthere.looks")


class WrongLooksTest(LookCase):
    def test_no_column(self):
        for name in any_objects() + NO_WORDS + ["number", "new", "anna", ["state"], ("state",), FREE, every(FREE)]:
            self.wrong(NoColumn, name, has, FREE, name, ["new"])
            self.wrong(NoColumn, name, has, FREE, name, None)
            self.wrong(NoColumn, name, same, FREE, name, "buyer")
            self.wrong(NoColumn, name, same, FREE, "buyer", name)
            self.wrong(NoColumn, name, same, FREE, "state", name)
            self.wrong(NoColumn, name, same, FREE, name, [None])
            self.wrong(NoColumn, name, same, FREE, name, name)

    def test_values_that_are_no_list(self):
        for values in any_objects() + ["new", "anna", {"new": "new"}, {0: "new"}]:
            if same_thing(values, ["a"]):
                continue
            self.wrong(BadLook, values, has, FREE, "state", values)
            self.wrong(BadLook, values, has, FREE, "buyer", values)

    def test_values_that_stand_twice(self):
        for values in (["new", "new"], ["new", "old", "new"], ("old", "new", "new")):
            self.wrong(BadLook, values, has, FREE, "state", values)
            self.wrong(BadLook, values, has, FREE, "buyer", values)

    def test_values_that_cannot_stand_there(self):
        for word in NO_WORDS + any_objects() + [FREE, every(FREE), ["new"], "lost", "ne", "newold", "number"]:
            self.wrong(BadLook, [word], has, FREE, "state", [word])
            self.wrong(BadLook, ["new", word], has, FREE, "state", ["new", word])
            self.wrong(BadLook, ("new", "old", word), has, FREE, "state", ("new", "old", word))
            if word not in ("a", "lost", "ne", "newold", "number"):
                self.wrong(BadLook, [word], has, FREE, "buyer", [word])
                self.wrong(BadLook, ("anna", word), has, FREE, "buyer", ("anna", word))
        self.wrong(BadLook, ["z"], has, TOLD, "c", ["z"])

    def test_one_column_twice(self):
        self.wrong(BadLook, "buyer", same, FREE, "buyer", "buyer")
        self.wrong(BadLook, "state", same, FREE, "state", "state")

    def test_columns_that_are_not_of_the_same_kind(self):
        self.wrong(BadLook, "buyer", same, FREE, "state", "buyer")
        self.wrong(BadLook, "state", same, FREE, "buyer", "state")
        self.wrong(BadLook, "c", same, TOLD, "a", "c")
        self.wrong(BadLook, "b", same, TOLD, "c", "b")
        self.wrong(BadLook, "kind", same, columns(), "state", "kind")
        fewer = Columns([("a", ["x", "y"]), ("b", ["x"])])
        self.wrong(BadLook, "b", same, fewer, "a", "b")
        self.wrong(BadLook, "a", same, fewer, "b", "a")

    def test_numbers_that_are_no_list(self):
        for numbers in any_objects() + ["1", {1: 1}, 1, None, {}]:
            if not same_thing(numbers, [1]) and not same_thing(numbers, [1, 2]):
                self.wrong(BadLook, numbers, numbered, FREE, numbers)

    def test_numbers_that_are_none(self):
        for number in any_objects() + [0, 5, -1, True, False, "1", [1], None, LONG]:
            if number is True or number not in (1, 2):
                self.wrong(BadLook, [number], numbered, FREE, [number])
                self.wrong(BadLook, (1, number), numbered, FREE, (1, number))
                self.wrong(BadLook, [4, 4, number, 1], numbered, FREE, [4, 4, number, 1])

    def test_error_changes_no_argument(self):
        values, numbers = ["new", "new"], [1, 0]
        self.wrong(BadLook, values, has, FREE, "state", values)
        self.wrong(BadLook, numbers, numbered, FREE, numbers)
        self.assertEqual((values, numbers), (["new", "new"], [1, 0]))


class SignsTest(LookCase):
    def setUp(self):
        self.one = has(FREE, "seller", ["anna", "bert"])
        self.other = same(FREE, "seller", "buyer")

    def test_each_sign(self):
        def one(row):
            return row[1] in ("anna", "bert")

        def other(row):
            return row[1] == row[2]

        self.finds(self.one & self.other, lambda row, number: one(row) and other(row))
        self.finds(self.one | self.other, lambda row, number: one(row) or other(row))
        self.finds(self.one - self.other, lambda row, number: one(row) and not other(row))
        self.finds(self.other - self.one, lambda row, number: other(row) and not one(row))
        self.finds(self.one ^ self.other, lambda row, number: one(row) != other(row))
        self.finds(~self.one, lambda row, number: not one(row))
        self.finds(~~self.other, lambda row, number: other(row))
        self.finds(~every(FREE), lambda row, number: False)

    def test_numbers_and_rows_together(self):
        self.finds(self.one & numbered(FREE, [2]), lambda row, number: row[1] in ("anna", "bert") and number == 2)
        self.finds(numbered(FREE, [1, 2]) ^ has(FREE, "state", ["new"]),
                   lambda row, number: (number in (1, 2)) != (row[0] == "new"))
        self.finds(~(numbered(FREE, [4]) | self.other), lambda row, number: number != 4 and row[1] != row[2])

    def test_looks_stay_as_they_were(self):
        one, other = self.one, self.other
        both = one & other
        for made in (one | other, one - other, one ^ other, ~one, ~both, both | one):
            self.assertIsNot(made, one)
        self.finds(one, lambda row, number: row[1] in ("anna", "bert"))
        self.finds(other, lambda row, number: row[1] == row[2])
        self.finds(both, lambda row, number: row[1] in ("anna", "bert") and row[1] == row[2])

    def test_in_place(self):
        look = self.one
        look &= self.other
        self.assertEqual(look, self.one & self.other)
        look |= numbered(FREE, [3])
        self.assertEqual(look, (self.one & self.other) | numbered(FREE, [3]))
        self.finds(self.one, lambda row, number: row[1] in ("anna", "bert"))

    def test_unlike_columns(self):
        for sign in (operator.and_, operator.or_, operator.sub, operator.xor, operator.le, operator.lt, operator.ge,
                     operator.gt):
            for one, other in ((every(FREE), every(TOLD)), (every(TOLD), every(FREE)),
                               (has(FREE, "state", ["new"]), has(columns(), "state", ["new"])),
                               (every(Columns([], ["a", "b"])), every(Columns([], ["b", "a"])))):
                with self.subTest(sign=sign):
                    with self.assertRaises(UnlikeColumns):
                        sign(one, other)

    def test_equal_columns_are_like(self):
        other = Columns((["state", ("new", "old")],), ("seller", "buyer"))
        self.finds(self.one & has(other, "buyer", ["carl"]),
                   lambda row, number: row[1] in ("anna", "bert") and row[2] == "carl")
        check_equal(self, has(other, "seller", ["bert", "anna"]), self.one, True)
        self.assertIs(has(other, "seller", ["bert"]) < self.one, True)


class ComparedTest(LookCase):
    def compare(self, one, other, less, greater):
        """Checks all comparisons of two looks; less: the other one finds all that the one finds."""
        check_equal(self, one, other, less and greater)
        with self.subTest(less=less, greater=greater):
            self.assertIs(one <= other, less)
            self.assertIs(one >= other, greater)
            self.assertIs(one < other, less and not greater)
            self.assertIs(one > other, greater and not less)
            self.assertIs(other <= one, greater)
            self.assertIs(other >= one, less)
            self.assertIs(other < one, greater and not less)
            self.assertIs(other > one, less and not greater)

    def alike(self, one, other):
        self.compare(one, other, True, True)

    def less(self, one, other):
        self.compare(one, other, True, False)

    def apart(self, one, other):
        self.compare(one, other, False, False)

    def test_written_otherwise(self):
        one, other, nothing = has(FREE, "buyer", ["anna"]), numbered(FREE, [2]), ~every(FREE)
        self.alike(one, one)
        self.alike(~~one, one)
        self.alike(has(FREE, "buyer", ["anna", "bert"]), has(FREE, "buyer", ["bert"]) | one)
        self.alike(numbered(FREE, [2, 2, 3]), numbered(FREE, (3, 2)))
        self.alike(has(FREE, "state", ["new", "old"]), every(FREE))
        self.alike(~has(FREE, "state", ["new"]), has(FREE, "state", ["old"]))
        self.alike(has(FREE, "state", ["new"]) & has(FREE, "state", ["old"]), nothing)
        self.alike(numbered(FREE, [1, 2]) & numbered(FREE, [3]), nothing)
        self.alike(one & has(FREE, "buyer", ["bert"]), nothing)
        self.alike(one - other, one & ~other)
        self.alike(one ^ other, (one - other) | (other - one))
        self.alike(~(one & other), ~one | ~other)
        self.alike(same(FREE, "seller", "buyer"), same(FREE, "buyer", "seller"))
        self.alike(same(FREE, "seller", "buyer") & one, same(FREE, "seller", "buyer") & has(FREE, "seller", ["anna"]))
        self.alike(same(TOLD, "a", "b"), (has(TOLD, "a", ["x"]) & has(TOLD, "b", ["x"]))
                   | (has(TOLD, "a", ["y"]) & has(TOLD, "b", ["y"])))

    def test_one_word(self):
        self.less(has(FREE, "buyer", ["anna"]), has(FREE, "buyer", ["anna", "bert"]))
        self.apart(has(FREE, "buyer", ["anna"]), has(FREE, "buyer", ["bert"]))
        self.apart(has(FREE, "buyer", ["anna"]), has(FREE, "seller", ["anna"]))
        self.apart(has(FREE, "state", ["new"]), has(FREE, "state", ["old"]))
        self.less(has(columns(), "kind", ["x", "z"]), every(columns()))
        self.less(has(FREE, "buyer", ["anna"]) & has(FREE, "seller", ["bert"]), has(FREE, "buyer", ["anna"]))
        self.less(has(FREE, "buyer", ["anna"]) & has(FREE, "seller", ["anna"]), same(FREE, "seller", "buyer"))

    def test_one_number(self):
        self.less(numbered(FREE, [1, 2, 3]), numbered(FREE, [1, 2, 3, 4]))
        self.apart(numbered(FREE, [1]), numbered(FREE, [2]))
        self.apart(numbered(FREE, [1, 3]), numbered(FREE, [1, 4]))
        one = has(FREE, "state", ["new"])
        self.less(one - numbered(FREE, [1]), one)

    def test_numbers_beyond_those_that_are_named(self):
        self.less(numbered(FREE, [1, 2, 3, 4]), every(FREE))
        one = has(FREE, "state", ["new"])
        self.less(one & numbered(FREE, [1, 2, 3, 4]), one)
        self.less(numbered(FREE, [1]), numbered(FREE, [1]) | ~numbered(FREE, [1, 2, 3, 4]))
        self.less(~every(FREE), ~numbered(FREE, [1, 2, 3, 4]))

    def test_words_that_no_look_names(self):
        one = Columns([], ["a"])
        self.less(has(one, "a", ["x"]), every(one))
        self.less(has(one, "a", ["x"]) & ~has(one, "a", ["x"]), ~has(one, "a", ["x", "y"]))
        self.less(has(FREE, "buyer", WORDS), every(FREE))
        self.less(has(FREE, "buyer", ["anna"]), ~has(FREE, "buyer", ["bert"]))
        # Only a word that is named for the other column tells these apart.
        self.less(same(FREE, "seller", "buyer") & has(FREE, "seller", ["anna"]), has(FREE, "buyer", ["anna"]))

    def test_many_words_that_are_named(self):
        one = Columns([], ["a"])
        named = list("abcdefghijklmnopqrstuvwxyz") + ["new", "old", "other", "moment", "throw", "zzzzzzzz"]
        many = has(one, "a", named)
        self.less(many, every(one))
        self.less(~every(one), ~many)
        self.apart(many, ~many)

    def test_same_over_a_column_between(self):
        apart = Columns([("a", ["x", "y", "z"]), ("b", ["x", "w"]), ("c", ["x", "y", "z"])])
        level = ~every(apart)
        for word in ("x", "y", "z"):
            level |= has(apart, "a", [word]) & has(apart, "c", [word])
        self.alike(same(apart, "a", "c"), level)
        self.alike(same(apart, "c", "a"), level)
        self.less(same(apart, "a", "c") - has(apart, "b", ["w"]), level)

    def test_two_free_columns(self):
        level = same(FREE, "seller", "buyer")
        self.less(level, every(FREE))
        self.less(~level, every(FREE))
        self.apart(level, ~level)
        named = has(FREE, "seller", ["anna"]) | has(FREE, "buyer", ["anna"])
        self.less(named & level, level)
        # These differ in rows alone whose two words are not named, and are alike, or are not.
        self.less(level & named, level & (named | has(FREE, "seller", ["bert"])))
        self.less(named, named | level)
        self.less(named | level, every(FREE))
        self.less(~level & ~named & numbered(FREE, [1]), ~level & ~named)
        self.apart(~named & level, ~named & ~level)

    def test_unlike_columns(self):
        check_equal(self, every(FREE), every(TOLD), False)
        check_equal(self, ~every(FREE), ~every(TOLD), False)
        check_equal(self, every(Columns([], ["a", "b"])), every(Columns([], ["b", "a"])), False)
        check_equal(self, every(Columns([("a", ["x", "y"])])), every(Columns([("a", ["y", "x"])])), False)

    def test_other_objects(self):
        for other in any_objects() + [FREE, TOLD, [every(TOLD)], (every(TOLD),), {"a": every(TOLD)}]:
            check_equal(self, every(TOLD), other, False)
            check_equal(self, ~every(TOLD), other, False)

    def test_against_all_rows(self):
        """Looks that are built by chance of simple ones, with what they find reckoned here."""
        chance = random.Random(7)
        for of in (FREE, TOLD, Columns([("s", ["new"])], ["b"])):
            free = [name for name in of.names() if of.told_values(name) is None]
            everything = points(of)
            simple = [every(of), numbered(of, [1]), numbered(of, [2, 4])]
            simple += [has(of, name, [word]) for name in free for word in ("anna", "bert", "new")]
            simple += [has(of, name, of.told_values(name)[:1]) for name in of.names() if name not in free]
            if of is not TOLD:
                simple += [same(of, *free)] if len(free) == 2 else []
            else:
                simple += [same(of, "a", "b")]
            known = [(look, {point for point in everything if look(*point)}) for look in simple]
            for _ in range(120):
                one, other = chance.choice(known), chance.choice(known)
                sign = chance.choice([operator.and_, operator.or_, operator.sub, operator.xor, None])
                if sign is None:
                    known.append((~one[0], set(everything) - one[1]))
                else:
                    known.append((sign(one[0], other[0]), sign(one[1], other[1])))
                if len(vars(known[-1][0])["steps"]) > 100:
                    known.pop()
            for look, found in known:
                self.assertEqual({point for point in everything if look(*point)}, found)
            for _ in range(400):
                (one, found), (other, others) = chance.choice(known), chance.choice(known)
                self.assertIs(one == other, found == others)
                self.assertIs(one != other, found != others)
                self.assertIs(one <= other, found <= others)
                self.assertIs(one < other, found < others)
                self.assertIs(one >= other, found >= others)
                self.assertIs(one > other, found > others)


class LimitsTest(unittest.TestCase):
    def test_fifty_simple_looks(self):
        def built(first):
            look = every(FREE)
            for k in range(first, first + 56):
                word = "abcdefgh"[k % 8] + "abcdefgh"[k // 8 % 8] + "abcdefgh"[k // 64]
                simple = has(FREE, ("seller", "buyer")[k % 2], [word])
                look = ~(look & simple) if k % 3 == 0 else look | simple
                look = look | same(FREE, "seller", "buyer") if k % 10 == 0 else look
            return look

        begun = time.monotonic()
        one, other = built(0), built(100)
        self.assertIs(one == other, False)
        self.assertIs(one <= other | one, True)
        self.assertIs(one & other > one, False)
        self.assertIs(one == built(0), True)
        self.assertLess(time.monotonic() - begun, 5)

    def test_nested_deep(self):
        look = has(FREE, "state", ["new"])
        for _ in range(1500):
            look = ~look
        self.assertIs(look == has(FREE, "state", ["new"]), True)
        self.assertIs(look(("new", "a", "b"), 1), True)
        left = right = every(FREE)
        for k in range(120):
            simple = numbered(FREE, [k % 4 + 1])
            left = (left - simple) | ~simple
            right = ~simple | (simple & right)
        self.assertIs(left(("new", "a", "b"), 5), True)
        self.assertIs(right == every(FREE), True)
