"""[1], [2], [18] to [21] and [23]: partings, against all runs on small tables, and by hand."""

import unittest

from tests import oracle
from tests.made import small_maker
from tests.samples import any_objects
from tests.stepped import happens
from tests.tables import Smallest
from toldthere.columns import Columns
from toldthere.errors import NoStatement
from toldthere.looks import every, has, numbered
from toldthere.partings import Parting, halts, healed, parting, steady, twice, wide, without
from toldthere.scripts import Script
from toldthere.statements import Change, Drop, Put, Trigger
from toldthere.tables import Table

C = Columns([("s", ["new", "old"])], ["f"])
NEW, OLD, ALL = has(C, "s", ["new"]), has(C, "s", ["old"]), every(C)
AGE = {"s": ("value", "old")}
MOMENT, THROW = {"f": ("moment",)}, {"f": ("throw",)}
SEEDS = range(150)


def plan(*statements, here=(), there=()):
    return Script(C, statements, here=here, there=there)


class PartingCase(unittest.TestCase):
    def check(self, script, told, order=None):
        """Checks that a parting can be and happens; returns how many numbers are unlike."""
        self.assertIs(type(told), Parting)
        unlike = oracle.possible_parting(script, told, order)
        happens(script, told, order)
        return unlike

    def check_rows(self, script, rows):
        """Checks that a script parts home and copy, and by how many rows; None: that it does not."""
        told = parting(script)
        self.assertIs(steady(script), rows is None)
        if rows is None:
            self.assertIsNone(told)
        else:
            self.check(script, told)
            self.assertEqual(len(told.start), rows)
        return told


class RandomTest(PartingCase):
    """Scripts of one to four statements against the oracle, on all tables with up to two or three rows."""

    def test_parting_and_steady(self):
        for seed in SEEDS:
            maker = small_maker(seed)
            script = maker.script(1 + seed % 4)
            most = 3 if len(maker.columns) == 1 and not maker.numbers else 2
            with self.subTest(seed=seed):
                smallest, told = Smallest(maker, script, most), parting(script)
                self.assertTrue(smallest.fits(told, smallest.parts))
                self.assertIs(steady(script), told is None)
                if told is not None:
                    self.check(script, told)
                self.check_halts(script, smallest)
                self.check_wide(script, smallest)

    def check_halts(self, script, smallest):
        found = {told.halted: told for told in halts(script)}
        self.assertEqual([told.halted for told in halts(script)], sorted(found))
        for index in range(len(script)):
            self.assertTrue(smallest.fits(found.get(index), smallest.halts.get(index)))
        for told in found.values():
            self.check(script, told)

    def check_wide(self, script, smallest):
        for least in range(1, 7):
            told = wide(script, least)
            self.assertTrue(smallest.fits(told, smallest.wide.get(least)))
            if told is not None:
                self.assertIsNone(told.halted)
                self.assertGreaterEqual(self.check(script, told), least)

    def test_healed(self):
        for seed in SEEDS:
            script = small_maker(seed).script(3)
            with self.subTest(seed=seed):
                ahead = [Script(script.columns, script.statements()[:count], here=script.here, there=script.there)
                         for count in (1, 2, 3)]
                self.assertEqual(healed(script), [parting(part) is None for part in ahead])

    def test_twice_and_without(self):
        for seed in SEEDS:
            maker = small_maker(seed)
            script, index = maker.script(1 + seed % 3), seed % (1 + seed % 3)
            orders = [(twice, [*range(index + 1), *range(index, len(script))]),
                      (without, [other for other in range(len(script)) if other != index])]
            for function, order in orders:
                with self.subTest(seed=seed, function=function.__name__):
                    told = function(script, index)
                    smallest = Smallest(maker, script, 2 if not maker.numbers else 1, order)
                    self.assertTrue(smallest.fits(told, smallest.parts))
                    if told is not None:
                        self.check(script, told, order)


class PartingTest(PartingCase):
    def test_rows_that_lie_otherwise(self):
        self.check_rows(plan(Change(NEW, [AGE])), 2)
        self.check_rows(plan(Change(NEW, [AGE], by=["number"])), None)
        self.check_rows(plan(Change(NEW, [AGE], by=["-number"])), None)
        self.check_rows(plan(Change(NEW, [AGE], by=["s"])), 2)
        self.check_rows(plan(Drop(ALL, most=2, by=["s"])), 3)
        self.check_rows(plan(Drop(numbered(C, [3]), most=1)), None)
        self.check_rows(plan(Drop(numbered(C, [3, 4]), most=1)), 2)
        self.check_rows(plan(Drop(numbered(C, [1, 2]), most=2)), None)

    def test_two_changes_that_are_alike(self):
        self.check_rows(plan(Change(numbered(C, [1, 2]), [AGE, AGE])), None)
        self.check_rows(plan(Change(numbered(C, [1, 2]), [AGE, {}])), 2)

    def test_new_words(self):
        self.check_rows(plan(Put(C, ("new", ("moment",)))), 0)
        self.check_rows(plan(Put(C, ("new", ("moment",)), how="values")), None)
        self.check_rows(plan(Change(NEW, MOMENT)), 1)
        self.check_rows(plan(Change(NEW, THROW)), 1)
        self.check_rows(plan(Change(NEW, THROW, how="values")), None)
        self.check_rows(plan(Change(NEW, [THROW], how="values")), 2)
        self.check_rows(plan(Change(NEW, THROW), Change(NEW, {"f": ("value", "w")})), None)

    def test_triggers_at_one_side(self):
        trigger = Trigger(OLD, {"f": ("value", "w")})
        self.check_rows(plan(Change(NEW, AGE), here=[trigger]), 1)
        self.check_rows(plan(Change(NEW, AGE), there=[trigger]), 1)
        self.check_rows(plan(Change(NEW, AGE), here=[trigger], there=[trigger]), None)
        self.check_rows(plan(Change(NEW, AGE, how="rows"), here=[trigger]), None)
        self.check_rows(plan(Drop(NEW), here=[trigger]), None)

    def test_guards_ask_the_table_of_each_store(self):
        self.check_rows(plan(Change(NEW, [AGE]), Drop(ALL, when=("some", NEW & has(C, "f", ["w"])))), 2)
        self.check_rows(plan(Change(NEW, AGE), Drop(ALL, when=("some", NEW))), None)

    def test_numbers_that_puts_draw(self):
        put = Put(C, ("new", "w"))
        drop = Drop(numbered(C, [3]), how="words")
        here = [Trigger(numbered(C, [3]), AGE)]
        self.assertEqual(self.check_rows(plan(put, here=here), 0).start.following, 3)
        self.check_rows(plan(put, drop, here=here), None)

    def test_rows_that_are_put_can_be_the_first_ones(self):
        put, wear = Put(C, ("new", "w")), Change(NEW, [{"f": ("value", "x")}, {"f": ("value", "y")}])
        self.check_rows(plan(put, Drop(NEW, most=1)), 1)
        self.check_rows(plan(put, put, Drop(NEW, most=1)), 0)
        self.check_rows(plan(put, put, Drop(NEW, most=2)), 1)
        self.check_rows(plan(put, put, put, Drop(NEW, most=2)), 0)
        self.check_rows(plan(put, put, wear), 0)
        self.check_rows(plan(put, put, wear.by_number()), None)
        self.check_rows(plan(put, Put(C, ("old", "w")), Drop(ALL, most=1, by=["s"])), 1)
        first = Drop(numbered(C, [2, 3]), most=1)
        self.assertEqual(self.check_rows(plan(put, put, first), 0).start.following, 2)
        self.check_rows(plan(put, put, Drop(numbered(C, [1, 4]), most=1)), 1)

    def test_as_many_rows_as_are_needed(self):
        # Three rows are needed for two ways to take two, one more for each guard.
        rows = {word: has(C, "f", [word]) for word in "xyz"}
        drop = Drop(rows["x"], most=2, when=("some", rows["y"]))
        heal = Drop(rows["x"], when=("none", rows["z"]))
        self.check_rows(plan(drop, heal), 5)
        # Told as its rows it does not reach the rows that home has not any more.
        self.check_rows(plan(drop, heal.told("rows")), 4)
        self.check_rows(plan(drop, Drop(rows["x"])), None)

    def test_runs_that_are_refused_at_home_do_not_count(self):
        self.check_rows(plan(Change(NEW, MOMENT), Drop(NEW & OLD, must=True)), None)
        self.check_rows(plan(Put(C, ("new", ("moment",))), Drop(OLD, must=True)), 1)
        self.check_rows(plan(Drop(NEW, must=True)), None)

    def test_halting(self):
        script = plan(Drop(ALL, most=1), Drop(NEW, must=True))
        told = self.check_rows(script, 2)
        self.assertIsInstance(told.start, Table)
        first, = halts(script)
        self.check(script, first)
        self.assertEqual((first.halted, len(first.start), len(first.copy)), (1, 2, 2))
        self.assertEqual(first.copy[1], ([], None, {}))

    def test_halting_where_the_tables_are_alike(self):
        # Home changes the row to what the copy has made of it already, so that the copy finds none.
        there = [Trigger(has(C, "f", ["w"]), AGE)]
        script = plan(Change(ALL, {"f": ("value", "w")}), Change(NEW, AGE, must=True), there=there)
        for script in (script, script + plan(Change(ALL, AGE))):
            told = self.check_rows(script, 1)
            self.assertEqual((told.halted, told.here), (1, told.there))
            first, = halts(script)
            self.check(script, first)
            self.assertEqual(len(first.start), 1)
            self.assertEqual(healed(script), [False] * len(script))
            self.assertIsNone(wide(script, 1))

    def test_words_that_are_named_in_one_place_alone(self):
        zed, make_zed = has(C, "f", ["zed"]), {"f": ("value", "zed")}
        change = Change(ALL, AGE)
        for script in (plan(change, there=[Trigger(zed, {"s": ("value", "new")})]),
                       plan(change, here=[Trigger(zed, {"s": ("value", "new")})]),
                       plan(Change(ALL, MOMENT, when=("some", zed))), plan(Change(zed, MOMENT)),
                       plan(change, there=[Trigger(OLD & zed, {"f": ("value", "w")})])):
            self.assertEqual(self.check_rows(script, 1).start.rows().popitem()[1][1], "zed")
        self.check_rows(plan(change, there=[Trigger(OLD, make_zed)]), 1)
        self.check_rows(plan(change, here=[Trigger(OLD, make_zed)]), 1)
        self.check_rows(plan(Change(NEW, [make_zed])), 2)
        self.check_rows(plan(Change(NEW, make_zed)), None)
        self.check_rows(plan(Put(C, ("new", "zed"))), None)

    def test_orders_of_several_columns(self):
        columns = Columns([("s", ["a", "b"]), ("t", ["a", "b"])])
        age = {"s": ("value", "b"), "t": ("value", "b")}
        for by, rows in ((["s", "-t"], 2), (["-t", "s"], 2), (["t", "s", "number"], None)):
            self.check_rows(Script(columns, [Change(every(columns), [age], by=by)]), rows)
        # The row that is taken is the only one of its kind, so that it does not matter how rows lie.
        kind = has(columns, "s", ["a"]) & has(columns, "t", ["b"])
        only = Drop(kind & ~numbered(columns, [1]))
        first = Change(every(columns), [age], by=["s", "-t"], when=("some", kind))
        self.check_rows(Script(columns, [only, first]), None)

    def test_halts_in_their_order(self):
        script = plan(Drop(ALL, most=1), Drop(NEW, must=True, how="values"), Change(OLD, MOMENT, must=True),
                      Drop(ALL, must=True, how="rows"))
        found = halts(script)
        self.assertEqual([told.halted for told in found], [1, 2])
        for told in found:
            self.check(script, told)
        self.assertEqual(len(found[1].copy), 3)
        self.assertEqual(found[1].copy[2][0], [])
        self.assertIsNotNone(found[1].copy[2][1])
        self.assertEqual(halts(plan(Drop(NEW, must=True))), [])

    def test_entries(self):
        script = plan(Put(C, ("new", ("moment",)), when=("none", OLD)), Change(ALL, THROW, how="rows"),
                      Change(ALL, [THROW, {}], by=["-number"], how="values"), Change(ALL, {"s": ("value", "new")}))
        script += plan(Put(C, ("new", ("moment",))))
        told = parting(script)
        self.check(script, told)
        self.assertEqual((len(told.home), len(told.copy)), (5, 5))
        self.assertIsNone(told.copy[1])
        self.assertEqual(told.home[3][1:], (None, {}))

    def test_parting_keeps_what_it_is_made_of(self):
        table = Table(C, {})
        made = Parting(table, table, table, None, [([], None, {})], [None])
        named = Parting(copy=[None], home=[], halted=1, there=table, here=table, start=table)
        self.assertEqual((made.start, made.here, made.there, made.halted, made.home, made.copy),
                         (table, table, table, None, [([], None, {})], [None]))
        self.assertEqual((named.halted, named.home), (1, []))
        home, copy = [([1], "m", {1: "t"})], (None, [(2, 1), None, {}])
        made = Parting(table, table, table, None, home, copy)
        home[0][0].append(2)
        home[0][2].clear()
        home.clear()
        copy[1][2][1] = "t"
        self.assertEqual((made.home, made.copy), ([([1], "m", {1: "t"})], [None, ([2, 1], None, {})]))

    def test_scripts_of_no_statements(self):
        empty = Script(C, [])
        self.assertIs(steady(empty), True)
        self.assertEqual((parting(empty), healed(empty), halts(empty), wide(empty, 1)), (None, [], [], None))

    def test_by_names_of_arguments(self):
        script = plan(Change(NEW, [AGE]))
        self.assertEqual(len(parting(plan=script).start), 2)
        self.assertIs(steady(plan=script), False)
        self.assertEqual(healed(plan=script), [False])
        self.assertEqual(halts(plan=script), [])
        self.assertEqual(len(wide(least=2, plan=script).start), 2)
        self.assertIsNotNone(twice(index=0, plan=script))
        self.assertIsNotNone(without(index=0, plan=script))

    def test_what_is_returned_may_be_changed(self):
        script = plan(Change(NEW, [THROW]))
        told = parting(script)
        told.home[0][0].append(7)
        told.home[0][2][9] = "no"
        told.copy.clear()
        healed(script).append(True)
        self.check(script, parting(script))
        self.assertEqual(healed(script), [False])


class HealedTest(PartingCase):
    def test_behind_each_statement(self):
        self.assertEqual(healed(plan(Change(NEW, [AGE]), Change(NEW, AGE), Drop(ALL, most=1))), [False, True, False])
        self.assertEqual(healed(plan(Change(NEW, MOMENT), Drop(NEW), Put(C, ("new", "w")))), [False, True, True])

    def test_where_home_is_refused_only_later_on(self):
        self.assertEqual(healed(plan(Change(NEW, MOMENT), Drop(NEW & OLD, must=True))), [False, True])
        self.assertEqual(healed(plan(Change(NEW, MOMENT), Drop(NEW), Drop(NEW, must=True))), [False, True, True])

    def test_a_copy_that_has_halted_is_not_healed(self):
        self.assertEqual(healed(plan(Drop(ALL, most=1), Drop(NEW, must=True), Drop(ALL))), [False, False, False])


class WideTest(PartingCase):
    def test_as_few_rows_as_possible(self):
        script = plan(Change(ALL, THROW))
        for least in range(1, 7):
            self.assertEqual(len(wide(script, least).start), least)
        script = plan(Drop(NEW, most=2), Put(C, ("new", ("moment",))))
        self.assertEqual([len(wide(script, least).start) for least in range(1, 6)], [0, 3, 3, 4, 4])
        self.assertIsNone(wide(script, 6))

    def test_runs_that_halt_do_not_count(self):
        script = plan(Drop(numbered(C, [1, 2]), most=1), Drop(numbered(C, [1]), must=True), Drop(numbered(C, [2])))
        self.assertIsNotNone(parting(script).halted)
        self.assertIsNone(wide(script, 1))


class TwiceTest(PartingCase):
    def test_puts(self):
        put = Put(C, ("new", "w"))
        self.assertEqual(len(twice(plan(put), 0).start), 0)
        self.assertEqual(len(without(plan(put), 0).start), 0)
        for how in ("values", "rows"):
            self.assertIsNone(twice(plan(put.told(how)), 0))
            self.assertEqual(len(without(plan(put.told(how)), 0).start), 0)

    def test_told_the_same_both_times(self):
        change = Change(NEW, {"s": ("value", "old"), **THROW})
        self.assertEqual(len(twice(plan(change), 0).start), 1)
        self.assertIsNone(twice(plan(change.told("values")), 0))
        self.assertIsNone(twice(plan(Change(ALL, MOMENT, how="values")), 0))
        toggle = Change(ALL, [{"s": ("value", "new")}], by=["-s", "number"])
        self.assertEqual(len(twice(plan(toggle), 0).start), 2)
        self.assertEqual(len(twice(plan(toggle.told("values")), 0).start), 2)
        self.assertIsNone(twice(plan(toggle.told("rows")), 0))

    def test_a_moment_that_a_row_has_already(self):
        two = Columns([("s", ["a", "b"])], ["f", "g"])
        trigger = Trigger(~has(two, "f", ["w"]), {"g": ("column", "f")})
        change = Change(every(two), {"f": ("moment",)}, how="values")
        self.assertIsNone(twice(Script(two, [change], here=[trigger], there=[trigger]), 0))

    def test_entries(self):
        script = plan(Change(NEW, AGE, how="rows"), Change(ALL, THROW), Drop(NEW))
        told = twice(script, 1)
        self.check(script, told, [0, 1, 1, 2])
        self.assertEqual((len(told.home), len(told.copy)), (3, 4))
        told = without(script, 1)
        self.check(script, told, [0, 2])
        self.assertEqual((len(told.home), len(told.copy)), (3, 2))

    def test_halted_is_the_index_in_the_script(self):
        script = plan(Put(C, ("old", "w"), how="rows"), Drop(NEW, must=True))
        told = twice(script, 1)
        self.check(script, told, [0, 1, 1])
        self.assertEqual((told.halted, len(told.copy)), (1, 3))
        told = without(plan(Change(OLD, {"s": ("value", "new")}), Drop(NEW, must=True)), 0)
        self.assertEqual((told.halted, len(told.copy)), (1, 1))

    def test_no_statement(self):
        script = plan(Drop(NEW), Drop(OLD))
        for thing in any_objects() + [-1, 2, True, False, "0", None, 0.0, [0], -2]:
            if isinstance(thing, int) and not isinstance(thing, bool) and 0 <= thing < 2:
                continue
            for function in (twice, without):
                with self.subTest(thing=thing), self.assertRaises(NoStatement) as caught:
                    function(script, thing)
                self.assertIs(caught.exception.index, thing)
        with self.assertRaises(NoStatement):
            twice(Script(C, []), 0)


class HoldsTest(unittest.TestCase):
    """[23]."""

    def test_told_as_rows(self):
        for seed in SEEDS:
            self.assertIs(steady(small_maker(seed).script(4, hows=("rows",))), True)

    def test_sums_of_steady_scripts(self):
        count = 0
        for seed in SEEDS:
            maker = small_maker(seed, new=False)
            one = maker.script(2, like=1)
            other = Script(one.columns, maker.statements(2), here=one.here, there=one.there)
            if steady(one) and steady(other):
                count += 1
                self.assertIs(steady(one + other), True)
        self.assertGreater(count, 20)
