"""[3] and [7]: tables."""

import unittest

from tests.samples import LONG, LONGER, NO_WORDS, any_objects, check_equal, columns, same_thing
from toldthere.columns import Columns
from toldthere.errors import BadFollowing, BadNumber, BadRow, NoRow
from toldthere.tables import Table

ANNA = ("new", "x", "anna")
BERT = ("old", "y", "bert")
CARL = ("new", "z", "carl")


class MadeTest(unittest.TestCase):
    def check(self, table, rows, following):
        self.assertEqual(table.rows(), rows)
        self.assertEqual(list(table.rows()), sorted(rows))
        self.assertEqual(table.numbers(), sorted(rows))
        self.assertEqual(len(table), len(rows))
        self.assertEqual(table.following, following)
        self.assertIs(type(table.following), int)
        for number in rows:
            self.assertEqual(table[number], rows[number])
            self.assertIs(type(table[number]), tuple)
            self.assertIs(type(table.rows()[number]), tuple)

    def test_no_row(self):
        self.check(Table(columns(), {}), {}, 1)
        self.check(Table(columns(), {}, following=1), {}, 1)
        self.check(Table(columns(), {}, following=7), {}, 7)
        self.check(Table(columns(), {}, following=LONG), {}, LONG)

    def test_one_row(self):
        self.check(Table(columns(), {1: ANNA}), {1: ANNA}, 2)
        self.check(Table(columns(), {5: ANNA}), {5: ANNA}, 6)
        self.check(Table(columns(), {5: ANNA}, following=6), {5: ANNA}, 6)
        self.check(Table(columns(), {5: ANNA}, following=9), {5: ANNA}, 9)

    def test_several_rows(self):
        self.check(Table(columns(), {1: ANNA, 2: BERT, 3: CARL}), {1: ANNA, 2: BERT, 3: CARL}, 4)
        self.check(Table(columns(), {1: ANNA, 2: ANNA}), {1: ANNA, 2: ANNA}, 3)

    def test_gaps(self):
        self.check(Table(columns(), {2: ANNA, 7: BERT, 40: CARL}), {2: ANNA, 7: BERT, 40: CARL}, 41)
        self.check(Table(columns(), {2: ANNA, 7: BERT}, following=100), {2: ANNA, 7: BERT}, 100)

    def test_any_order(self):
        for order in ((7, 2, 40), (40, 7, 2), (2, 40, 7), (10, 9, 100, 1)):
            rows = {number: ANNA for number in order}
            self.check(Table(columns(), rows), rows, max(order) + 1)
            self.assertEqual(list(rows), list(order))

    def test_long_numbers(self):
        rows = {LONGER: ANNA, 1: BERT, LONG: CARL}
        self.check(Table(columns(), rows), rows, LONGER + 1)
        self.check(Table(columns(), rows, following=LONGER + 5), rows, LONGER + 5)
        self.assertEqual(Table(columns(), rows).numbers(), [1, LONG, LONGER])

    def test_many_rows(self):
        rows = {number: ANNA for number in range(120, 0, -2)}
        self.check(Table(columns(), rows), rows, 121)

    def test_rows_as_lists(self):
        self.check(Table(columns(), {1: list(ANNA), 2: BERT, 3: list(CARL)}), {1: ANNA, 2: BERT, 3: CARL}, 4)

    def test_arguments_by_name(self):
        table = Table(rows={3: ANNA}, following=8, columns=columns())
        self.check(table, {3: ANNA}, 8)
        self.check(Table(columns(), {3: ANNA}, following=None), {3: ANNA}, 4)

    def test_following_by_name_alone(self):
        with self.assertRaises(TypeError):
            Table(columns(), {}, 3)

    def test_columns(self):
        self.assertEqual(Table(columns(), {}).columns, columns())
        other = Columns([("state", ["new", "old"])])
        self.assertEqual(Table(other, {1: ["new"]}).columns, other)

    def test_methods_stand_in_the_class(self):
        for method in ("__init__", "rows", "numbers", "__getitem__", "__contains__", "__len__", "__eq__"):
            self.assertIn(method, Table.__dict__)
        self.assertEqual(Table.__module__, "toldthere.tables")


class WrongTest(unittest.TestCase):
    def wrong(self, error, attribute, value, rows, following=None):
        with self.subTest(rows=rows, following=following):
            with self.assertRaises(error) as caught:
                Table(columns(), rows, following=following)
            self.assertTrue(same_thing(getattr(caught.exception, attribute), value))

    def test_numbers_below_1(self):
        self.wrong(BadNumber, "number", 0, {0: ANNA})
        self.wrong(BadNumber, "number", -1, {-1: ANNA})
        self.wrong(BadNumber, "number", 0, {1: ANNA, 0: BERT})
        self.wrong(BadNumber, "number", -LONG, {5: ANNA, 0: BERT, -LONG: ANNA})

    def test_the_least_number(self):
        self.wrong(BadNumber, "number", -12, {0: ANNA, -12: ANNA, -3: ANNA, 4: ANNA})
        self.wrong(BadNumber, "number", -2, {-1: ANNA, 1: BERT, -2: ANNA})

    def test_no_rows(self):
        for thing in any_objects() + [ANNA[:2], ANNA + ("a",), ("lost", "x", "anna"), "new",
                                      {"new": 1, "x": 2, "a": 3}]:
            self.wrong(BadRow, "number", 4, {4: thing})
        for thing in NO_WORDS:
            self.wrong(BadRow, "number", LONG, {1: ANNA, LONG: ["new", "x", thing], 2: BERT})

    def test_the_least_number_of_no_row(self):
        self.wrong(BadRow, "number", 3, {9: None, 3: None, 7: (), 2: ANNA, 10: ANNA})
        self.wrong(BadRow, "number", 9, {100: None, 9: (), 10: ANNA})

    def test_following(self):
        for following in (0, -1, -LONG):
            self.wrong(BadFollowing, "following", following, {}, following)
            self.wrong(BadFollowing, "following", following, {1: ANNA}, following)
        for following in (1, 2, 6, 7):
            self.wrong(BadFollowing, "following", following, {7: ANNA, 2: BERT}, following)
        self.wrong(BadFollowing, "following", LONGER, {LONGER: ANNA, 2: BERT}, LONGER)

    def test_order_of_the_errors(self):
        self.wrong(BadNumber, "number", 0, {1: None, 0: ANNA}, 0)
        self.wrong(BadNumber, "number", -1, {-2 + 1: ANNA, 0: None, 3: ()}, 1)
        self.wrong(BadNumber, "number", 0, {0: None})
        self.wrong(BadRow, "number", 2, {2: None, 1: ANNA}, 0)
        self.wrong(BadRow, "number", 2, {2: None, 1: ANNA}, 1)

    def test_error_changes_no_argument(self):
        rows = {3: ["new"], 1: list(ANNA)}
        self.wrong(BadRow, "number", 3, rows)
        self.assertEqual(list(rows.items()), [(3, ["new"]), (1, list(ANNA))])


class AnswersTest(unittest.TestCase):
    def setUp(self):
        self.table = Table(columns(), {40: CARL, 2: ANNA, 7: BERT}, following=50)

    def test_items_by_number(self):
        self.assertEqual([self.table[2], self.table[7], self.table[40]], [ANNA, BERT, CARL])

    def test_no_row(self):
        for thing in any_objects() + [True, 0, 1, -2, 3, 39, 41, 50, LONG, "2", [2], (2,), {2: 2}, ANNA, "new"]:
            if type(thing) is int and thing == 2:
                continue
            with self.subTest(thing=thing):
                with self.assertRaises(NoRow) as caught:
                    self.table[thing]
                self.assertTrue(same_thing(caught.exception.number, thing))
                self.assertIs(thing in self.table, False)
                self.assertIs(thing not in self.table, True)

    def test_true_is_no_number(self):
        table = Table(columns(), {1: ANNA})
        self.assertIs(True in table, False)
        self.assertIs(1 in table, True)
        with self.assertRaises(NoRow) as caught:
            table[True]
        self.assertIs(caught.exception.number, True)

    def test_in(self):
        for number in (2, 7, 40):
            self.assertIs(number in self.table, True)
            self.assertIs(number not in self.table, False)
        self.assertIs(LONG in Table(columns(), {LONG: ANNA}), True)

    def test_numbers_is_a_new_list(self):
        numbers = self.table.numbers()
        self.assertIs(type(numbers), list)
        self.assertEqual(numbers, [2, 7, 40])
        numbers.clear()
        self.assertEqual(self.table.numbers(), [2, 7, 40])

    def test_rows_is_a_new_dict(self):
        rows = self.table.rows()
        self.assertIs(type(rows), dict)
        self.assertEqual(list(rows.items()), [(2, ANNA), (7, BERT), (40, CARL)])
        rows[2] = BERT
        rows[1] = ANNA
        del rows[40]
        self.assertEqual(list(self.table.rows().items()), [(2, ANNA), (7, BERT), (40, CARL)])
        self.assertEqual(self.table.numbers(), [2, 7, 40])
        self.assertEqual(self.table[2], ANNA)
        self.assertEqual(len(self.table), 3)
        self.assertNotIn(1, self.table)

    def test_later_changes_of_what_was_handed_over(self):
        row = list(ANNA)
        rows = {2: row, 1: BERT}
        table = Table(columns(), rows)
        self.assertEqual(list(rows.items()), [(2, ["new", "x", "anna"]), (1, BERT)])
        row[0] = "old"
        row.append("more")
        rows[1] = CARL
        rows[5] = CARL
        del rows[2]
        self.assertEqual(list(table.rows().items()), [(1, BERT), (2, ANNA)])
        self.assertEqual((table[2], len(table), table.following), (ANNA, 2, 3))
        self.assertEqual(table, Table(columns(), {1: BERT, 2: ANNA}))

    def test_not_iterated_over(self):
        with self.assertRaises(TypeError):
            list(self.table)


class EqualTest(unittest.TestCase):
    def test_same(self):
        one = Table(columns(), {2: ANNA, 7: BERT})
        check_equal(self, one, one, True)
        check_equal(self, one, Table(columns(), {7: list(BERT), 2: ANNA}, following=8), True)
        check_equal(self, Table(columns(), {}), Table(columns(), {}, following=1), True)

    def test_other_columns(self):
        few, more = Columns([("state", ["new"])]), Columns([("state", ["new", "old"])])
        check_equal(self, Table(few, {1: ["new"]}), Table(more, {1: ["new"]}), False)
        check_equal(self, Table(few, {}), Table(more, {}), False)
        check_equal(self, Table(few, {1: ["new"]}), Table(Columns([], ["state"]), {1: ["new"]}), False)

    def test_other_rows_or_numbers(self):
        one = Table(columns(), {2: ANNA, 7: BERT}, following=9)
        for rows in ({}, {2: ANNA}, {7: BERT}, {2: BERT, 7: ANNA}, {2: ANNA, 7: ANNA}, {2: ANNA, 8: BERT},
                     {1: ANNA, 7: BERT}, {2: ANNA, 7: BERT, 8: CARL}, {2: ANNA, 7: ("old", "y", "berta")}):
            check_equal(self, one, Table(columns(), rows, following=9), False)

    def test_other_following(self):
        check_equal(self, Table(columns(), {2: ANNA}), Table(columns(), {2: ANNA}, following=4), False)
        check_equal(self, Table(columns(), {}), Table(columns(), {}, following=2), False)
        check_equal(self, Table(columns(), {}, following=LONGER), Table(columns(), {}, following=LONGER + 1), False)

    def test_other_objects(self):
        one = Table(columns(), {5: ANNA, 7: BERT})
        for other in any_objects() + [{5: ANNA, 7: BERT}, [5, 7], [ANNA, BERT], columns()]:
            check_equal(self, one, other, False)
