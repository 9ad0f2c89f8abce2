"""[22]: the fewest pairs that mend a script."""

import itertools
import unittest

from tests import oracle
from tests.made import small_maker
from toldthere.columns import Columns
from toldthere.looks import every, has, numbered
from toldthere.mends import mends
from toldthere.partings import steady
from toldthere.scripts import Script
from toldthere.statements import Change, Drop, Put, Trigger

C = Columns([("s", ["new", "old"])], ["f"])
NEW, OLD, ALL = has(C, "s", ["new"]), has(C, "s", ["old"]), every(C)
AGE = {"s": ("value", "old")}
MOMENT, THROW = {"f": ("moment",)}, {"f": ("throw",)}


def with_pairs(script, pairs):
    for index, word in pairs:
        statement = script[index]
        script = script.exchanged(index, statement.by_number() if word == "number" else statement.told(word))
    return script


def choices(index, statement):
    """The lists of pairs that may stand beside a statement, by the words of [22]."""
    numbered_one = statement.by_number() != statement
    valued = statement.how == "words" and (oracle.has_moment(statement) or oracle.has_throw(statement))
    lists = [[]]
    if numbered_one:
        lists.append([(index, "number")])
    if valued:
        lists.append([(index, "values")])
    if numbered_one and valued:
        lists.append([(index, "number"), (index, "values")])
    if statement.how != "rows":
        lists.append([(index, "rows")])
    return lists


def fewest(script):
    lists = [sorted(pair for part in parts for pair in part)
             for parts in itertools.product(*[choices(index, statement)
                                              for index, statement in enumerate(script.statements())])]
    lists.sort(key=lambda pairs: (len(pairs), pairs))
    return next(pairs for pairs in lists if steady(with_pairs(script, pairs)))


class MendsTest(unittest.TestCase):
    def mended(self, pairs, *statements, **triggers):
        script = Script(C, statements, **triggers)
        found = mends(script)
        self.assertEqual(found, pairs)
        self.assertIs(type(found), list)
        self.assertTrue(all(type(pair) is tuple for pair in found))
        self.assertIs(steady(with_pairs(script, found)), True)

    def test_nothing_to_mend(self):
        self.mended([])
        self.mended([], Change(NEW, AGE), Put(C, ("new", "w")))

    def test_each_word(self):
        self.mended([(0, "number")], Change(NEW, [AGE]))
        self.mended([(0, "rows")], Change(NEW, MOMENT))
        self.mended([(0, "rows")], Put(C, ("new", ("moment",))))
        self.mended([(0, "rows")], Change(NEW, AGE), here=[Trigger(OLD, {"f": ("value", "w")})])

    def test_rows_come_ahead_of_values(self):
        self.mended([(0, "rows")], Change(NEW, THROW), Drop(OLD))
        self.mended([(0, "rows")], Change(NEW, [THROW]))

    def test_values_where_rows_do_not_do(self):
        # Told as its rows, the second change would not reach the rows of which home has changed others ahead.
        columns = Columns([("s", ["new", "old"]), ("t", ["yes", "no"])], ["f"])
        new, yes, no = has(columns, "s", ["new"]), has(columns, "t", ["yes"]), has(columns, "t", ["no"])
        for source in (MOMENT, THROW):
            change = Change(new | yes, {**AGE, **source})
            for how, pairs in (("words", [(1, "values")]), ("values", []), ("rows", [(0, "number")])):
                script = Script(columns, [Change(new & no, [AGE]), change.told(how), Change(no, {"f": ("value", "w")})])
                self.assertEqual(mends(script), pairs)
                self.assertEqual(mends(script), fewest(script))

    def test_what_more_pairs_spoil(self):
        heal = Change(ALL, {"s": ("value", "old")})
        self.mended([], Change(NEW, [AGE]), heal)
        script = Script(C, [Change(NEW, [AGE]), Change(NEW, AGE)])
        self.assertIs(steady(script), True)
        self.assertIs(steady(with_pairs(script, [(1, "rows")])), False)

    def test_several_statements(self):
        put = Put(C, ("new", ("moment",)))
        self.mended([(0, "rows"), (1, "number"), (2, "rows")], put, Change(NEW, [AGE]), put)
        self.mended([(0, "number"), (1, "number"), (2, "number")], Drop(NEW, most=1), Drop(OLD, most=1, by=["s"]),
                    Drop(ALL, most=1, by=["-s"]))

    def test_which_pairs_may_stand(self):
        self.mended([], Change(NEW, [AGE], how="rows"))
        self.mended([(0, "rows")], Change(NEW, [THROW], by=["number"]))
        self.mended([(0, "number")], Change(NEW, [THROW], how="values"))
        self.mended([(0, "rows")], Change(NEW, MOMENT, when=("some", OLD)))

    def test_a_statement_told_as_rows_may_be_numbered(self):
        # By the numbers it always drops the row that the guard asks for.
        drop = Drop(numbered(C, [1, 2]), most=1, how="rows")
        self.mended([(0, "number")], drop, Put(C, ("new", ("moment",)), when=("some", numbered(C, [1]))))

    def test_values_beside_rows(self):
        columns = Columns([("s", ["new", "old"]), ("t", ["yes", "no"])], ["f"])
        new, yes, no = has(columns, "s", ["new"]), has(columns, "t", ["yes"]), has(columns, "t", ["no"])
        script = Script(columns, [Change(new & no, [AGE]), Change(new | yes, {**AGE, **MOMENT}),
                                  Change(no, {"f": ("value", "w")}), Change(yes, [THROW])])
        self.assertEqual(mends(script), [(1, "values"), (3, "rows")])

    def test_number_and_values_for_one_statement(self):
        # Each of the two first statements can part the rows 1 and 2, and the third one heals what they did; but
        # where none of them is run, it takes both rows itself, and one of them gets a moment.
        pair, old = NEW & numbered(C, [1, 2]), {**AGE, "f": ("value", "w")}
        parts = [Change(pair, [old], when=("some", has(C, "f", [word]))) for word in ("x", "y")]
        script = Script(C, [*parts, Change(pair, [old, MOMENT])])
        self.assertEqual(mends(script), fewest(script))
        self.assertEqual(mends(script), [(2, "number"), (2, "values")])

    def test_by_chance(self):
        for seed in range(120):
            script = small_maker(seed).script(1 + seed % 4)
            with self.subTest(seed=seed):
                self.assertEqual(mends(script), fewest(script))

    def test_what_is_returned_may_be_changed(self):
        script = Script(C, [Drop(NEW, most=1)])
        mends(script).append((1, "rows"))
        self.assertEqual(mends(plan=script), [(0, "number")])
