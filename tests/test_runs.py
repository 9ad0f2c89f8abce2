"""[16] and [17]: the runs of home and copy, as the oracle of the tests has them, told by hand."""

import unittest

from tests import oracle
from toldthere.columns import Columns
from toldthere.looks import every, has
from toldthere.scripts import Script
from toldthere.statements import Change, Drop, Put, Trigger

C = Columns([("s", ["new", "old"])], ["f"])
NEW, OLD, ALL = has(C, "s", ["new"]), has(C, "s", ["old"]), every(C)
AGE = {"s": ("value", "old")}
ROWS = {2: ("new", "a"), 5: ("new", "b"), 7: ("old", "c")}
STATE = (ROWS, 9)


def ends(statements, state=STATE, here=(), there=(), order=None):
    """All pairs of a state of home and of a state of the copy, or of the word halted."""
    order = list(range(len(statements))) if order is None else order
    pairs = []
    for home, tolds in oracle.home_runs(statements, state, here):
        for copy, _, halted in oracle.copy_runs([tolds[index] for index in order], state, there):
            pairs.append((home, copy if halted is None else "halted"))
    return pairs


class HomeTest(unittest.TestCase):
    def homes(self, statements, state=STATE, here=()):
        return [home for home, _ in oracle.home_runs(statements, state, here)]

    def test_a_put_draws_its_number_also_where_it_is_not_run(self):
        put = Put(C, ("old", "w"), when=("none", NEW))
        self.assertEqual(self.homes([put]), [(ROWS, 10)])
        self.assertEqual(self.homes([put], ({7: ("old", "c")}, 9)), [({7: ("old", "c"), 9: ("old", "w")}, 10)])

    def test_rows_are_changed_by_the_words_that_they_had_themselves(self):
        two = Columns([], ["f", "g"])
        turn = Change(every(two), {"f": ("column", "g"), "g": ("column", "f")})
        self.assertEqual(self.homes([turn], ({1: ("a", "b"), 4: ("c", "d")}, 5)),
                         [({1: ("b", "a"), 4: ("d", "c")}, 5)])

    def test_first_rows_by_each_order(self):
        drop = Drop(ALL, most=1)
        left = [tuple(rows) for rows, _ in self.homes([drop])]
        self.assertEqual(sorted(left), [(2, 5), (2, 7), (5, 7)])
        for by, gone in ((["-s"], [7]), (["s"], [2, 5]), (["s", "-number"], [5]), (["number"], [2]),
                         (["-number"], [7]), (["s", "number"], [2])):
            drop = Drop(ALL, most=1, by=by)
            self.assertEqual(sorted(number for rows, _ in self.homes([drop]) for number in ROWS if number not in rows),
                             gone)

    def test_the_second_row_by_the_second_change(self):
        change = Change(ALL, [{"f": ("value", "one")}, {"f": ("value", "two")}], by=["s"])
        found = sorted(tuple(rows[number][1] for number in rows) for rows, _ in self.homes([change]))
        self.assertEqual(found, [("one", "two", "c"), ("two", "one", "c")])
        self.assertEqual(self.homes([change], ({3: ("old", "a")}, 4)), [({3: ("old", "one")}, 4)])

    def test_triggers_follow_each_other_behind_rows_that_are_not_dropped(self):
        triggers = [Trigger(OLD, {"f": ("value", "seen")}), Trigger(has(C, "f", ["seen"]), {"s": ("value", "new")})]
        self.assertEqual(self.homes([Change(NEW, AGE)], here=triggers),
                         [({2: ("new", "seen"), 5: ("new", "seen"), 7: ("old", "c")}, 9)])
        self.assertEqual(self.homes([Drop(NEW)], here=triggers), [({7: ("old", "c")}, 9)])
        self.assertEqual(self.homes([Put(C, ("old", "w"))], ({}, 1), triggers), [({1: ("new", "seen")}, 2)])
        self.assertEqual(self.homes([Change(OLD, {})], here=triggers[:1])[0][0][7], ("old", "seen"))

    def test_refused(self):
        self.assertEqual(self.homes([Change(NEW, AGE), Drop(NEW, must=True)]), [])
        self.assertEqual(self.homes([Drop(NEW, must=True, when=("none", OLD))]), [STATE])


class CopyTest(unittest.TestCase):
    def test_words_are_run_anew(self):
        change = Change(NEW, {"f": ("moment",)})
        (home, copy), = ends([change])
        self.assertNotEqual(home[0][2], copy[0][2])
        self.assertEqual(copy[0][2], copy[0][5])
        self.assertEqual(len(ends([Change(NEW, [AGE])])), 4)

    def test_values_are_those_of_home(self):
        for source in ("moment", "throw"):
            (home, copy), = ends([Change(NEW, {"f": (source,)}, how="values")])
            self.assertEqual(home, copy)
            self.assertEqual(home[0][2] == home[0][5], source == "moment")

    def test_a_row_that_got_no_throw_at_home_gets_a_new_word(self):
        pairs = ends([Change(NEW, [{"f": ("throw",)}], how="values")])
        for home, copy in pairs:
            changed = [[number for number in ROWS if state[0][number] != ROWS[number]] for state in (home, copy)]
            self.assertEqual(home == copy, changed[0] == changed[1])

    def test_a_put_with_its_values_has_the_number_of_home(self):
        first, second = Put(C, ("old", "one"), how="values"), Put(C, ("old", "two"), how="values")
        (home, copy), = ends([first, second], ({}, 1), order=[1, 0])
        self.assertEqual(home, copy)
        (home, copy), = ends([first, second.told("words")], ({}, 1), order=[1, 0])
        self.assertEqual(copy, ({1: ("old", "one")}, 2))
        (home, copy), = ends([Put(C, ("old", "w"), how="values", when=("none", NEW))])
        self.assertEqual(copy, (ROWS, 10))

    def test_rows_are_told_with_the_triggers_of_home(self):
        here, there = [Trigger(OLD, {"f": ("value", "here")})], [Trigger(OLD, {"f": ("value", "there")})]
        (home, copy), = ends([Change(NEW, AGE, how="rows")], here=here, there=there)
        self.assertEqual(home, copy)
        (home, copy), = ends([Change(NEW, AGE)], here=here, there=there)
        self.assertEqual(copy[0][2], ("old", "there"))
        put, drop = Put(C, ("new", "w"), how="rows"), Drop(NEW, how="rows")
        for _, copy in ends([drop, put], order=[1, 0]):
            self.assertEqual(copy, ({7: ("old", "c"), 9: ("new", "w")}, 10))

    def test_the_copy_halts(self):
        plan = [Drop(ALL, most=1), Drop(NEW, must=True)]
        pairs = ends(plan, ({1: ("new", "a"), 2: ("old", "b")}, 3))
        self.assertEqual(sorted(copy == "halted" for _, copy in pairs), [False, True])

    def test_numbers_that_are_unlike(self):
        self.assertEqual(oracle.unlike_numbers({1: "a", 2: "b", 3: "c"}, {1: "a", 2: "c", 4: "d"}), [2, 3, 4])

    def test_script_of_no_statements(self):
        self.assertEqual(ends(Script(C, []).statements()), [(STATE, STATE)])
