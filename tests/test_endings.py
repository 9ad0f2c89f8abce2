"""[24] and [25]: the tables with which home can end."""

import unittest

from tests import oracle
from tests.made import large_maker, small_maker
from tests.samples import LONG
from tests.tables import states
from toldthere.columns import Columns
from toldthere.endings import alike, endings, unlike
from toldthere.errors import NotPlain, UnlikeColumns
from toldthere.looks import every, has, numbered
from toldthere.scripts import Script
from toldthere.statements import Change, Drop, Put, Trigger
from toldthere.tables import Table

C = Columns([("s", ["new", "old"])], ["f"])
NEW, OLD, ALL = has(C, "s", ["new"]), has(C, "s", ["old"]), every(C)
AGE = {"s": ("value", "old")}
WORDS = ["w", "p", "q", "pp"]
HERE = Trigger(OLD, {"f": ("value", "w")})


def plan(*statements, here=(), there=()):
    return Script(C, statements, here=here, there=there)


def key(rows, following):
    return tuple(sorted(rows.items())), following


def ends(script, state):
    return {key(*home) for home, _ in oracle.home_runs(script.statements(), state, script.here)}


def varied(maker, script):
    """A script that is likely to be alike, or nearly so."""
    statements, kind = script.statements(), maker.random.random()
    place = maker.random.randrange(len(statements))
    if kind < 0.3:
        statements[place], statements[-1] = statements[-1], statements[place]
    elif kind < 0.5:
        statements[place] = statements[place].by_number()
    elif kind < 0.6:
        return Script(script.columns, statements, here=[*script.here, maker.trigger()])
    elif kind < 0.8:
        one = statements[place]
        if one.kind == "drop" and one.most is None and not one.must and one.when is None:
            part = maker.look()
            statements[place:place + 1] = [Drop(one.look & part), Drop(one.look - part)]
        elif one.kind == "drop" and one.most == 2 and not one.must and one.when is None:
            statements[place:place + 1] = [Drop(one.look, most=1, by=one.by)] * 2
    else:
        return maker.script(len(statements))
    return Script(script.columns, statements, here=script.here)


class EndingsTest(unittest.TestCase):
    def check(self, script, table):
        found = endings(script, table)
        self.assertIs(type(found), list)
        keys = [key(one.rows(), one.following) for one in found]
        self.assertEqual(len(keys), len(set(keys)))
        self.assertEqual(set(keys), ends(script, (table.rows(), table.following)))
        return found

    def test_by_chance(self):
        for seed in range(200):
            maker = small_maker(seed, new=False)
            script = maker.script(1 + seed % 5)
            for count in range(5):
                numbers = maker.random.sample(range(1, 9), count)
                rows = {number: [maker.pick(maker.columns.told_values(name) or WORDS)
                                 for name in maker.columns.names()] for number in numbers}
                following = max(numbers, default=0) + maker.pick([1, 2, LONG])
                with self.subTest(seed=seed, rows=rows):
                    self.check(script, Table(maker.columns, rows, following=following))

    def test_six_rows_in_any_order(self):
        table = Table(C, {number: ("new", "x") for number in range(1, 7)})
        self.assertEqual(len(self.check(plan(Drop(NEW, most=2)), table)), 15)
        self.assertEqual(len(self.check(plan(Change(NEW, [AGE, {"f": ("value", "w")}])), table)), 30)
        self.assertEqual(len(self.check(plan(Change(NEW, [AGE], by=["number"])), table)), 1)
        self.assertEqual(len(self.check(plan(Drop(NEW, most=1), Drop(NEW, most=1), Put(C, ("old", "w"))), table)), 15)

    def test_orders_of_several_columns(self):
        columns = Columns([("s", ["a", "b"]), ("t", ["a", "b", "c"])], ["f"])
        pairs = [(s, t) for t in "bca" for s in "ba"]
        table = Table(columns, {number: (*pair, "x") for number, pair in enumerate(pairs, 1)})
        for by, pair in ((["s", "t"], ("a", "a")), (["s", "-t"], ("a", "c")), (["-t", "s"], ("a", "c")),
                         (["t", "-s"], ("b", "a")), (["-s", "-t", "number"], ("b", "c"))):
            drop = Drop(every(columns), most=1, by=by)
            left, = self.check(Script(columns, [drop]), table)
            self.assertEqual(set(table.rows().values()) - set(left.rows().values()), {(*pair, "x")})

    def test_refused(self):
        self.assertEqual(endings(plan(Drop(NEW, must=True)), Table(C, {})), [])
        found = self.check(plan(Drop(ALL, most=1), Drop(NEW, must=True)),
                           Table(C, {1: ("new", "a"), 2: ("old", "b")}))
        self.assertEqual([table.rows() for table in found], [{}])

    def test_triggers_of_home_alone(self):
        table = Table(C, {1: ("new", "a")})
        for there in ([], [HERE]):
            found = endings(plan(Change(NEW, AGE, how="rows"), there=there), table)
            self.assertEqual([one.rows() for one in found], [{1: ("old", "a")}])
        found = endings(plan(Change(NEW, AGE, how="values"), here=[HERE]), table)
        self.assertEqual([one.rows() for one in found], [{1: ("old", "w")}])

    def test_not_plain(self):
        moment, throw = {"f": ("moment",)}, {"f": ("throw",)}
        for statement in (Put(C, ("new", ("moment",))), Change(NEW, moment), Change(NEW, [{}, throw], how="rows"),
                          Change(NEW, [moment], when=("some", NEW), how="values")):
            script = plan(Drop(NEW), statement, Put(C, ("old", ("moment",))))
            with self.assertRaises(NotPlain) as caught:
                endings(script, Table(C, {}))
            self.assertEqual(caught.exception.index, 1)
            for function in (alike, unlike):
                with self.assertRaises(NotPlain) as caught:
                    function(plan(), script)
                self.assertEqual(caught.exception.index, 1)
                with self.assertRaises(NotPlain) as caught:
                    function(plan(statement), script)
                self.assertEqual(caught.exception.index, 0)

    def test_by_names(self):
        table = Table(C, {})
        self.assertEqual(endings(plan=plan(), table=table), [table])
        self.assertIs(alike(first=plan(), second=plan()), True)
        self.assertIsNone(unlike(second=plan(), first=plan()))

    def test_what_is_returned_may_be_changed(self):
        table = Table(C, {1: ("new", "a")})
        endings(plan(), table).append(1)
        endings(plan(), table)[0].rows().clear()
        self.assertEqual(endings(plan(), table), [table])


class AlikeTest(unittest.TestCase):
    def check(self, one, other):
        """Checks what is told of two scripts, both ways round; returns the number of rows, None if they are alike."""
        told, turned = unlike(one, other), unlike(other, one)
        self.assertIs(alike(one, other), told is None)
        self.assertIs(alike(other, one), told is None)
        for first, second, found in ((one, other, told), (other, one, turned)):
            if found is not None:
                self.check_told(first, second, found)
        self.assertEqual(told is None, turned is None)
        return None if told is None else len(told[0])

    def check_told(self, first, second, found):
        self.assertIs(type(found), tuple)
        table, ending, is_first = found
        self.assertIn(is_first, (True, False))
        self.assertIsInstance(ending, Table)
        state = table.rows(), table.following
        self.assertLess(max(table.following, ending.following), 10 ** 40)
        self.assertIs(key(ending.rows(), ending.following) in ends(first, state), is_first)
        self.assertIs(key(ending.rows(), ending.following) in ends(second, state), not is_first)

    def test_by_chance(self):
        found = []
        for seed in range(240):
            maker = small_maker(seed, new=False)
            one = maker.script(1 + seed % 4)
            other = varied(maker, one)
            with self.subTest(seed=seed):
                rows = self.check(one, other)
                found.append(rows)
                most = 3 if len(maker.columns) == 1 and not maker.numbers else 2
                least = next((len(state[0]) for state in states(maker, most)
                              if ends(one, state) != ends(other, state)), None)
                self.assertTrue(rows == least or least is None and rows > most)
        self.assertTrue(all(found.count(rows) > 2 for rows in (None, 0, 1, 2)))

    def test_large_scripts(self):
        for seed in range(40):
            maker = large_maker(seed, new=False)
            one = maker.script(5)
            with self.subTest(seed=seed):
                self.assertIs(alike(one, one), True)
                self.check(one, varied(maker, one))

    def test_orders(self):
        self.assertEqual(self.check(plan(Drop(NEW, most=1)), plan(Drop(NEW, most=1, by=["number"]))), 2)
        self.assertIsNone(self.check(plan(Drop(NEW, most=1)), plan(Drop(NEW, most=1, by=["-s"]))))
        self.assertIsNone(self.check(plan(Drop(NEW, most=2)), plan(Drop(NEW, most=1), Drop(NEW, most=1))))
        self.assertIsNone(self.check(plan(Drop(ALL, most=2, by=["s", "-number"])),
                                     plan(*[Drop(ALL, most=1, by=["s", "-number"])] * 2)))
        self.assertEqual(self.check(plan(Drop(NEW, most=2)), plan(Drop(NEW, most=1, by=["number"]), Drop(NEW, most=1))),
                         3)

    def test_rows_that_are_needed(self):
        rows = {word: has(C, "f", [word]) for word in "xyz"}
        drop = Drop(NEW, when=("some", rows["x"]))
        both = [Drop(OLD, when=("some", rows["y"])), drop]
        self.assertEqual(self.check(plan(*both), plan(*both[::-1])), 2)
        self.assertEqual(self.check(plan(Change(rows["x"], [AGE, AGE])), plan(Change(rows["x"], AGE))), 3)

    def test_following_numbers(self):
        put = Put(C, ("new", "w"))
        self.assertEqual(self.check(plan(put, Drop(numbered(C, [1, 2, 3, 4]) | ~numbered(C, [1, 2, 3, 4]))),
                                    plan(Drop(ALL))), 0)
        self.assertEqual(self.check(plan(put, put), plan(put)), 0)
        self.assertEqual(self.check(plan(put, Drop(numbered(C, [3]))), plan(put)), 0)
        self.assertEqual(self.check(plan(put, Drop(NEW, must=True), Drop(OLD, must=True)), plan(Drop(OLD, must=True))), 1)

    def test_scripts_that_are_always_refused(self):
        never = Drop(NEW & OLD, must=True)
        self.assertIsNone(self.check(plan(never), plan(Put(C, ("new", "w")), never)))
        self.assertEqual(self.check(plan(never), plan()), 0)
        self.assertEqual(self.check(plan(Drop(NEW, must=True)), plan(Drop(NEW))), 0)

    def test_triggers_and_tellings(self):
        change = Change(NEW, AGE)
        self.assertIsNone(self.check(plan(change, there=[HERE]), plan(change.told("rows"))))
        self.assertEqual(self.check(plan(change, here=[HERE]), plan(change)), 1)
        self.assertIsNone(self.check(plan(change, here=[HERE]), plan(Change(NEW, {**AGE, "f": ("value", "w")}))))

    def test_words_that_are_named_in_one_place_alone(self):
        zed, change = has(C, "f", ["zed"]), Change(NEW, AGE)
        trigger = Trigger(zed, {"s": ("value", "new")})
        self.assertEqual(self.check(plan(change, here=[trigger]), plan(change)), 1)
        self.assertEqual(self.check(plan(change, here=[HERE]), plan(change, here=[HERE, trigger])), None)
        self.assertEqual(self.check(plan(change), plan(change, here=[Trigger(OLD, {"f": ("value", "zed")})])), 1)
        self.assertEqual(self.check(plan(change), plan(Change(NEW, AGE, when=("none", zed)))), 1)
        self.assertEqual(self.check(plan(), plan(Drop(zed))), 1)

    def test_words_that_stand_in_two_columns(self):
        two = Columns([], ["f", "g"])
        turn = Change(every(two), {"f": ("column", "g"), "g": ("column", "f")})
        one = Script(two, [turn, turn])
        self.assertIsNone(self.check(one, Script(two, [])))
        self.assertEqual(self.check(Script(two, [turn]), Script(two, [])), 1)

    def test_unlike_columns_come_first(self):
        other = Columns([("s", ["new", "old"])], ["g"])
        bad = Script(other, [Put(other, ("new", ("moment",)))])
        for function in (alike, unlike):
            for pair in ((plan(Put(C, ("new", ("moment",)))), bad), (bad, plan()), (plan(), Script(other, []))):
                with self.assertRaises(UnlikeColumns):
                    function(*pair)
