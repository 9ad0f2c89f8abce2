"""[3]: what was passed and is changed later, what was returned and is changed, lists and tuples, over the program."""

import unittest

from tests.made import small_maker
from toldthere.columns import Columns
from toldthere.endings import endings, unlike
from toldthere.looks import every, has
from toldthere.mends import mends
from toldthere.partings import halts, healed, parting, steady, twice, wide
from toldthere.scripts import Script
from toldthere.spreads import spread
from toldthere.statements import Change, Drop, Put, Trigger
from toldthere.stores import Copy, Home
from toldthere.tables import Table
from toldthere.texts import read, text
from toldthere.weavings import Dealings, least_level, weavings, woven

C = Columns([("s", ["new", "old"])], ["f"])
NEW, ALL = has(C, "s", ["new"]), every(C)


def lists(shape):
    """A script whose parts are all lists, or all tuples."""
    change = {"s": shape(["value", "old"]), "f": shape(["throw"])}
    trigger = Trigger(has(C, "s", shape(["old"])), {"f": shape(["column", "f"])})
    statements = shape([Put(C, shape(["new", shape(["moment"])]), when=shape(["some", NEW])),
                        Change(NEW, shape([change, {}]), by=shape(["-s"])), Drop(ALL, most=1, by=shape(["s", "number"]))])
    return Script(C, statements, here=shape([trigger]), there=shape([trigger, trigger]))


def rows_of(told):
    return None if told is None else len(told.start)


def answers(script):
    return (steady(script), rows_of(parting(script)), healed(script), [rows_of(one) for one in halts(script)],
            rows_of(wide(script, 2)), rows_of(twice(script, 0)), spread(script), mends(script), text(script))


class ConventionsTest(unittest.TestCase):
    def test_lists_and_tuples(self):
        self.assertEqual(lists(list), lists(tuple))
        self.assertEqual(answers(lists(list)), answers(lists(tuple)))
        for shape in (list, tuple):
            table = Table(Columns(shape([shape(["s", shape(["new", "old"])])]), shape(["f"])),
                          {1: shape(["new", "a"])}, following=4)
            self.assertEqual(table[1], ("new", "a"))
            home = Home(table, triggers=shape([Trigger(ALL, {})]), lying=shape)
            self.assertEqual(home.run(Drop(ALL, most=1)), [1])
            made = Dealings(C, shape([shape([Drop(ALL)])]), here=shape([]), there=shape([]))
            self.assertEqual(made, Dealings(C, [[Drop(ALL)]]))

    def test_the_same_answer_each_time(self):
        for seed in range(30):
            script = small_maker(seed).script(3)
            before = text(script)
            first = answers(script)
            self.assertEqual(answers(script), first)
            self.assertEqual(answers(read(before)), first)
            self.assertEqual(text(script), before)

    def test_what_is_returned_may_be_changed(self):
        script = Script(C, [Change(NEW, [{"f": ("throw",)}]), Drop(has(C, "f", ["w"]), must=True)])
        first = answers(script)
        healed(script).clear()
        mends(script).append(1)
        halts(script).clear()
        for told in (parting(script), wide(script, 2), twice(script, 0)):
            for entry in told.home + told.copy:
                entry[0].append(9)
                entry[2][9] = "x"
            told.home.clear()
            told.copy.clear()
        script.statements().clear()
        self.assertEqual(answers(script), first)

    def test_changed_arguments(self):
        rows = {1: ["new", "a"], 2: ["new", "b"]}
        table = Table(C, rows)
        home, copy = Home(table), Copy(table)
        rows.clear()
        self.assertEqual(home.run(Drop(NEW, most=1)), [1])
        self.assertEqual(copy.step(home), [1])
        self.assertEqual(len(table), 2)
        plain = Script(C, [Drop(NEW, most=1)])
        found = endings(plain, table)
        found.clear()
        self.assertEqual(len(endings(plain, table)), 2)

    def test_truth_values_and_numbers(self):
        script = lists(list)
        for told in (steady(script), *healed(script)):
            self.assertIsInstance(told, bool)
        self.assertIs(type(spread(Script(C, [Drop(NEW, most=1)]))), int)
        self.assertIs(type(unlike(Script(C, []), Script(C, [Drop(NEW)]))[2]), bool)
        dealings = Dealings(C, [[Drop(NEW)], [Drop(NEW)]])
        self.assertIs(type(weavings(dealings)), list)
        self.assertIs(type(least_level(dealings)), str)
        self.assertIsNone(woven(dealings, "looks"))

    def test_methods_without_a_result(self):
        home = Home(Table(C, {}))
        dealing, other = home.begin(), home.begin()
        self.assertIsNone(dealing.end())
        self.assertIsNone(other.undo())
        self.assertIsNone(home.set_triggers([]))
        self.assertIsNone(Copy(Table(C, {})).skip())
