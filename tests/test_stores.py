"""[31] to [35] and [4]: homes and copies by hand."""

import unittest

from tests.samples import LONG, any_objects, check_equal
from toldthere.columns import Columns
from toldthere.errors import (BadLevel, BadOrder, BadStatement, BadTrigger, BadWord, Barred, Busy, Closed, Halted,
                              NoEntry, NoWords, Refused)
from toldthere.looks import every, has
from toldthere.statements import Change, Drop, Put, Trigger
from toldthere.stores import Copy, Dealing, Entry, Home
from toldthere.tables import Table

C = Columns([("s", ("new", "old"))], ["f"])
OTHER = Columns([("s", ("new", "old"))], ["g"])
NEW, OLD, ALL = has(C, "s", ["new"]), has(C, "s", ["old"]), every(C)
AGE = {"s": ("value", "old")}
MOMENT, THROW = {"f": ("moment",)}, {"f": ("throw",)}
ROWS = {1: ("new", "a"), 3: ("new", "b"), 4: ("old", "c")}
TABLE = Table(C, ROWS, following=6)
PUT = Put(C, ("new", "w"))
SEEN = Trigger(OLD, {"f": ("value", "seen")})


class Calls:
    """A function that returns one thing after another, and keeps what it was passed."""

    def __init__(self, *things):
        self.things, self.passed = list(things), []

    def __call__(self, *passed):
        self.passed.append([list(thing) for thing in passed])
        return self.things.pop(0)


def entry(one):
    return one.dealing, one.statement, one.number, one.moment, one.throws, one.results, one.following


class StoreCase(unittest.TestCase):
    def fails(self, error, told, function, *arguments, **named):
        with self.assertRaises(error) as caught:
            function(*arguments, **named)
        self.assertIs(type(caught.exception), error)
        self.assertEqual(list(vars(caught.exception).values()), told)

    def unchanged(self, home, *, log=0, table=TABLE, dealings=()):
        self.assertEqual(home.table, table)
        self.assertEqual(home.following, table.following)
        self.assertEqual(len(home), log)
        self.assertEqual(home.open_dealings(), list(dealings))


class HomeTest(StoreCase):
    def test_made(self):
        home = Home(TABLE)
        self.assertEqual((home.columns, home.level, home.following, home.table), (C, "rows", 6, TABLE))
        self.assertEqual((home.triggers(), home.entries(), home.open_dealings(), len(home)), ([], [], [], 0))
        for name in ("columns", "level", "following"):
            self.assertIn(name, vars(home))
        home = Home(table=TABLE, lying=None, words=None, level="looks", triggers=(SEEN,))
        self.assertEqual((home.level, home.triggers()), ("looks", [SEEN]))
        with self.assertRaises(TypeError):
            Home(TABLE, [SEEN])

    def test_bad_level_then_bad_trigger(self):
        for thing in any_objects() + ["Rows", "row"]:
            self.fails(BadLevel, [thing], Home, TABLE, level=thing, triggers=None)
        foreign = Trigger(every(OTHER), {})
        for thing in any_objects() + [SEEN, [foreign], [SEEN, None]]:
            if thing not in ([], ()):
                self.fails(BadTrigger, ["triggers"], Home, TABLE, triggers=thing)
                self.fails(BadTrigger, ["triggers"], Copy, TABLE, triggers=thing)
                home = Home(TABLE, triggers=[SEEN])
                self.fails(BadTrigger, ["triggers"], home.set_triggers, thing)
                self.assertEqual(home.triggers(), [SEEN])

    def test_set_triggers(self):
        home = Home(TABLE)
        triggers = [SEEN]
        self.assertIsNone(home.set_triggers(triggers))
        triggers.clear()
        home.triggers().clear()
        home.run(Change(NEW, AGE))
        self.assertEqual(home.table.rows(), {1: ("old", "seen"), 3: ("old", "seen"), 4: ("old", "c")})
        dealing = home.begin()
        self.fails(Busy, [], home.set_triggers, "x")
        self.fails(Busy, [], home.set_triggers, triggers=[])
        dealing.end()
        home.set_triggers(())
        self.assertEqual(home.triggers(), [])

    def test_run(self):
        home = Home(TABLE)
        self.assertEqual(home.run(PUT), [6])
        self.assertEqual(home.run(Change(NEW, AGE)), [1, 3, 6])
        self.assertEqual(home.run(Drop(ALL, most=2, by=["-number"])), [6, 4])
        self.assertEqual(home.run(Drop(NEW)), [])
        self.assertEqual(home.run(Put(C, ("new", "x"), when=("some", NEW))), [])
        self.assertEqual(home.run(statement=Put(C, ("new", "x"))), [8])
        self.assertEqual(home.table, Table(C, {1: ("old", "a"), 3: ("old", "b"), 8: ("new", "x")}))
        self.assertEqual((home.following, len(home)), (9, 6))

    def test_rows_lie_in_the_order_of_their_numbers(self):
        self.assertEqual(Home(TABLE).run(Drop(ALL, most=2)), [1, 3])
        self.assertEqual(Home(TABLE).run(Drop(ALL, most=2, by=["-s"])), [4, 1])

    def test_orders_of_several_columns(self):
        columns = Columns([("s", ["a", "b"]), ("t", ["a", "b", "c"])])
        rows = {1: ("b", "b"), 2: ("a", "b"), 3: ("b", "c"), 4: ("a", "c"), 5: ("b", "a"), 6: ("a", "a"), 8: ("a", "c")}
        for by, numbers in ((["s", "t"], [6, 2]), (["s", "-t"], [4, 8]), (["-t", "s"], [4, 8]), (["t", "-s"], [5, 6]),
                            (["s", "-t", "-number"], [8, 4]), (["-s", "-t", "number"], [3, 1])):
            home = Home(Table(columns, rows))
            self.assertEqual(home.run(Drop(every(columns), most=2, by=by)), numbers)
            copy = Copy(Table(columns, rows), lying=lambda numbers: numbers[::-1])
            level = len(set(rows[number] for number in numbers)) == 1
            told = numbers if not level or "number" in by[-1] else numbers[::-1]
            self.assertEqual(copy.step(home), told)

    def test_lying(self):
        lying = Calls([4, 3, 1], (3, 4, 1), [1, 4], [], [])
        home = Home(TABLE, lying=lying)
        self.assertEqual(home.run(Drop(ALL, most=1, by=["s"])), [3])
        home = Home(TABLE, lying=lying)
        for statement in (Drop(ALL, most=1, by=["number"]), Drop(ALL, most=1, by=["s", "-number"]), Drop(OLD),
                          PUT, Drop(ALL, most=1, when=("none", ALL))):
            Home(TABLE, lying=lying).run(statement)
        self.assertEqual(home.run(Change(ALL, [AGE])), [3])
        self.assertEqual(lying.passed, [[[1, 3, 4]]] * 2)
        self.assertEqual(Home(Table(C, {}), lying=Calls([])).run(Drop(ALL, most=1)), [])

    def test_lying_may_change_its_list(self):
        def lying(numbers):
            numbers.reverse()
            return numbers

        home = Home(TABLE, lying=lying)
        self.assertEqual(home.run(Drop(ALL, most=1)), [4])
        self.assertEqual(home.run(Drop(ALL, most=1)), [3])

    def test_bad_order(self):
        for order in any_objects() + [[1, 3], [1, 3, 4, 4], [1, 3, 5], [4, 3, True], "134", [1, 3, 4, 6], {1: 3}]:
            home = Home(TABLE, lying=lambda numbers: order)
            self.fails(BadOrder, [order], home.run, Drop(ALL, most=1, must=True))
            self.unchanged(home)

    def test_numbers_of_any_length(self):
        home = Home(Table(C, {LONG: ("new", "a")}))
        self.assertEqual(home.run(PUT), [LONG + 1])
        self.assertEqual(home.run(Drop(ALL)), [LONG, LONG + 1])


class WordsTest(StoreCase):
    def test_how_often_and_in_which_order(self):
        words = Calls("m", "p", "q")
        home = Home(TABLE, words=words, lying=Calls([4, 3, 1]))
        change = Change(ALL, [{"f": ("throw",)}, {"f": ("throw",), "s": ("value", "new")}])
        home.run(Change(OLD, MOMENT, when=("none", ALL)))
        self.assertEqual(len(words.passed), 1)
        self.assertEqual(home.run(change), [4, 3])
        self.assertEqual(home.table[4], ("old", "p"))
        self.assertEqual(home.table[3], ("new", "q"))
        self.assertEqual(words.passed, [[]] * 3)

    def test_moment_ahead_of_throws_by_ascending_numbers(self):
        two = Columns([("s", ["new"])], ["f", "g"])
        home = Home(Table(two, {5: ("new", "a", "b"), 2: ("new", "a", "b")}), words=Calls("m", "p", "q"))
        home.run(Change(every(two), {"g": ("moment",), "f": ("throw",)}))
        self.assertEqual(home.table.rows(), {2: ("new", "p", "m"), 5: ("new", "q", "m")})
        self.assertEqual(home.run(Change(every(two), {"f": ("throw",)}, when=("none", every(two)))), [])

    def test_no_words(self):
        for statement in (Put(C, ("new", ("moment",))), Change(NEW, MOMENT, when=("none", ALL)), Change(NEW, THROW),
                          Change(NEW, [{}, THROW])):
            home = Home(TABLE)
            self.fails(NoWords, [], home.run, statement)
            self.unchanged(home)
        home = Home(TABLE)
        self.assertEqual(home.run(Change(NEW & OLD, THROW)), [])
        self.assertEqual(home.run(Change(NEW, [{}, THROW], when=("none", ALL))), [])

    def test_bad_words(self):
        for word in any_objects() + ["", "A", "a b", "ninechars", "new", "a", "b", "c", "old", None, 1]:
            if word == "number":
                continue
            words = Calls(word, "later")
            home = Home(TABLE, words=words)
            self.fails(BadWord, [word], home.run, Change(NEW, THROW))
            self.assertEqual(len(words.passed), 1)
            self.unchanged(home)

    def test_a_word_that_was_given_before(self):
        home = Home(TABLE, words=Calls("p", "p", "q", "q", "p", "r"))
        self.fails(BadWord, ["p"], home.run, Change(NEW, THROW))
        self.fails(BadWord, ["q"], home.run, Change(NEW, THROW))
        self.fails(BadWord, ["p"], home.run, Put(C, ("new", ("moment",))))
        self.unchanged(home)
        self.assertEqual(home.run(Put(C, ("new", ("moment",)))), [6])
        self.assertEqual(home.run(Drop(has(C, "f", ["r"]))), [6])
        self.fails(BadWord, ["r"], Home(home.table, words=Calls("p", "r", "r")).run, Change(ALL, THROW))

    def test_a_word_of_a_row_that_is_gone(self):
        home = Home(TABLE, words=Calls("a"))
        home.run(Drop(has(C, "f", ["a"])))
        self.assertEqual(home.run(Put(C, ("new", ("moment",)))), [6])
        self.assertEqual(home.table[6], ("new", "a"))


class DealingTest(StoreCase):
    def test_begin_and_end(self):
        home = Home(TABLE)
        one = home.begin()
        self.assertIs(type(one), Dealing)
        self.assertEqual((one.number, one.state, one.taken()), (0, "open", []))
        self.assertEqual({"number", "state"} - set(vars(one)), set())
        home.run(PUT)
        other = home.begin()
        self.assertEqual((other.number, home.open_dealings()), (2, [0, 2]))
        self.assertEqual(other.run(PUT), [7])
        self.assertEqual(one.run(statement=Drop(NEW - has(C, "f", ["w"]))), [1, 3])
        self.assertEqual(len(home), 1)
        self.assertIsNone(other.end())
        self.assertIsNone(one.end())
        self.assertEqual((one.state, other.state, home.open_dealings()), ("ended", "ended", []))
        self.assertEqual([one.dealing for one in home.entries()], [1, 2, 0])
        self.assertEqual((one.taken(), other.taken()), ([1, 3], [7]))

    def test_closed(self):
        home = Home(TABLE)
        for close in ("end", "undo"):
            dealing = home.begin()
            dealing.run(Change(NEW, {}))
            getattr(dealing, close)()
            for call in (dealing.end, dealing.undo, lambda: dealing.run(None), lambda: dealing.run(PUT)):
                self.fails(Closed, [], call)
            self.assertEqual(dealing.taken(), [1, 3])

    def test_undo(self):
        home = Home(TABLE, triggers=[SEEN], words=Calls("p", "q"))
        dealing = home.begin()
        dealing.run(Change(has(C, "f", ["a"]), THROW))
        dealing.run(PUT)
        dealing.run(Drop(has(C, "f", ["p", "w"])))
        dealing.run(Change(has(C, "f", ["c"]), AGE))
        dealing.run(Put(C, ("old", "x")))
        self.assertEqual(home.table.rows(), {3: ("new", "b"), 4: ("old", "seen"), 7: ("old", "seen")})
        dealing.undo()
        self.assertEqual(home.table, Table(C, ROWS, following=8))
        self.assertEqual((dealing.state, dealing.taken(), len(home)), ("undone", [1, 4, 6, 7], 0))
        self.assertEqual(home.run(PUT), [8])

    def test_refused(self):
        home = Home(TABLE, words=Calls())
        dealing = home.begin()
        dealing.run(Change(NEW, AGE))
        dealing.run(PUT)
        self.fails(Refused, [], dealing.run, Change(has(C, "f", ["z"]), MOMENT, must=True))
        self.assertEqual(dealing.state, "undone")
        self.unchanged(home, table=Table(C, ROWS, following=7))
        self.fails(Closed, [], dealing.end)
        self.fails(Refused, [], home.run, Drop(NEW & OLD, must=True))
        self.assertEqual(home.begin().number, 1)
        self.assertEqual(home.run(Drop(NEW & OLD, must=True, when=("none", ALL))), [])

    def test_bad_statement(self):
        home = Home(TABLE)
        dealing = home.begin()
        for thing in any_objects() + [Put(OTHER, ("new", "w")), Drop(every(OTHER)), None, [PUT]]:
            if isinstance(thing, (Put, Drop, Change)) and thing.columns == C:
                continue
            self.fails(BadStatement, ["statement"], dealing.run, thing)
            self.fails(BadStatement, ["statement"], home.run, thing)
        self.assertEqual(dealing.state, "open")
        self.unchanged(home, dealings=[0])
        self.assertEqual(home.begin().number, 1)

    def test_order_of_the_errors(self):
        home = Home(TABLE, lying=Calls("x", [1, 3, 4], [1, 3, 4], [1, 3, 4]), level="looks")
        one, other = home.begin(), home.begin()
        one.run(Drop(has(C, "f", ["a"])))
        first = Change(has(C, "f", ["a", "z"]), [MOMENT], must=True)
        self.fails(BadOrder, ["x"], other.run, first)
        home = Home(TABLE, lying=Calls([3, 1, 4]), level="looks")
        one, other = home.begin(), home.begin()
        one.run(Change(has(C, "f", ["a"]), {"f": ("value", "z")}))
        self.fails(Barred, [0], other.run, Change(has(C, "f", ["a"]), MOMENT, must=True))
        self.assertEqual(other.state, "open")
        one.end()
        self.fails(Refused, [], other.run, Change(has(C, "f", ["a"]), MOMENT, must=True))
        self.fails(NoWords, [], home.run, Change(ALL, MOMENT))


class LocksTest(StoreCase):
    def barred(self, level, ahead, statement, number=0):
        home = Home(TABLE, level=level)
        dealings = [home.begin() for _ in ahead]
        last = home.begin()
        for dealing, one in zip(dealings, ahead):
            dealing.run(one)
        table = home.table
        if number is None:
            last.run(statement)
        else:
            self.fails(Barred, [number], last.run, statement)
            self.fails(Barred, [number], home.run, statement)
            self.unchanged(home, table=table, dealings=range(len(ahead) + 1))
            self.assertEqual(last.state, "open")
            for dealing in dealings:
                dealing.end()
            last.run(statement)

    def each(self, ahead, statement, *levels):
        """Checks at which levels a statement has to wait for another one."""
        for level in ("rows", "found", "looks"):
            self.barred(level, [ahead], statement, 0 if level in levels else None)

    def test_rows(self):
        self.each(Change(NEW, {}), Drop(has(C, "f", ["a"])), "rows", "found", "looks")
        self.each(Change(NEW, {}), Change(OLD, {}))
        self.each(PUT, Drop(has(C, "f", ["w"])), "rows", "found", "looks")

    def test_found(self):
        guarded = Put(C, ("old", "x"), when=("some", NEW))
        self.each(Change(has(C, "f", ["a"]), {}), guarded, "found", "looks")
        self.each(guarded, Change(has(C, "f", ["a"]), {}), "found", "looks")
        self.each(Drop(ALL, most=1, by=["number"]), Change(NEW, [{}], by=["-number"]), "found", "looks")
        self.each(Change(NEW, [{}], by=["-number"]), Change(ALL, [{}], by=["number"]), "found", "looks")

    def test_looks(self):
        self.each(Drop(OLD), Change(has(C, "f", ["a"]), AGE), "looks")
        self.each(Change(has(C, "f", ["a"]), AGE), Drop(has(C, "f", ["c"]) & OLD, when=("none", has(C, "f", ["q"]))))
        self.each(Drop(has(C, "f", ["a"])), Change(NEW, {}), "looks")
        self.each(PUT, Drop(NEW & has(C, "f", ["w", "q"]), when=("some", has(C, "f", ["q"]))))
        self.each(Drop(has(C, "f", ["w"])), PUT, "looks")

    def test_a_statement_that_is_not_run_does_not_use_its_look(self):
        self.each(Drop(NEW, when=("none", has(C, "f", ["c"]))), Change(has(C, "f", ["a"]), {}))
        self.each(Change(has(C, "f", ["a"]), {}), Drop(NEW, when=("none", has(C, "f", ["c"]))))
        self.each(Drop(has(C, "f", ["q"]), when=("none", has(C, "f", ["c"]))), Change(OLD, {}), "found", "looks")

    def test_the_least_number(self):
        self.barred("rows", [Change(has(C, "f", ["c"]), {}), Change(has(C, "f", ["a"]), {}),
                             Change(has(C, "f", ["b"]), {})], Drop(NEW), 1)

    def test_dealings_that_are_over_bar_nothing(self):
        for close in ("end", "undo"):
            home = Home(TABLE, level="looks")
            dealing = home.begin()
            dealing.run(Change(ALL, {}))
            getattr(dealing, close)()
            self.assertEqual(home.run(Drop(ALL)), [1, 3, 4])

    def test_a_dealing_does_not_wait_for_itself(self):
        dealing = Home(TABLE, level="looks").begin()
        self.assertEqual(dealing.run(Change(ALL, {})), [1, 3, 4])
        self.assertEqual(dealing.run(Drop(ALL)), [1, 3, 4])

    def test_new_words_are_unlike_all_that_looks_name(self):
        two = Columns([], ["f", "g"])
        table = Table(two, {1: ("a", "a"), 2: ("b", "c")})
        home = Home(table, level="looks", words=Calls("p"))
        home.begin().run(Drop(has(two, "f", ["b"]) | has(two, "f", ["p"])))
        self.assertEqual(home.run(Change(has(two, "f", ["a"]), {"g": ("moment",)})), [1])


class LogTest(StoreCase):
    def test_entries_of_each_way(self):
        home = Home(TABLE, words=Calls("p", "q", "r", "t", "u", "v"))
        put = Put(C, ("new", ("moment",)))
        statements = [put, put.told("values"), put.told("rows"), Change(NEW, [THROW], by=["-number"], how="values"),
                      Change(NEW, [THROW], by=["number"]), Drop(NEW, most=2, by=["-number"], how="rows"),
                      Put(C, ("old", "w"), when=("none", ALL), how="values"),
                      Drop(NEW, when=("none", ALL), how="rows"), Drop(OLD, how="values")]
        for statement in statements:
            home.run(statement)
        told = [entry(one) for one in home.entries()]
        self.assertTrue(all(type(one) is Entry for one in home.entries()))
        self.assertEqual(told, [
            (0, statements[0], None, None, None, None, None),
            (1, statements[1], 7, "q", {}, None, None),
            (2, statements[2], None, None, None, {8: ("new", "r")}, 9),
            (3, statements[3], None, None, {8: "t"}, None, None),
            (4, statements[4], None, None, None, None, None),
            (5, statements[5], None, None, None, {8: None, 7: None}, 9),
            (6, statements[6], 9, None, {}, None, None),
            (7, statements[7], None, None, None, {}, 10),
            (8, statements[8], None, None, {}, None, None)])
        self.assertEqual(list(told[5][5]), [8, 7])
        self.assertEqual([entry(home[place]) for place in range(len(home))], told)
        for place, one in enumerate(home.entries()):
            for other_place in range(len(home)):
                check_equal(self, one, home[other_place], place == other_place)
            check_equal(self, one, told[place], False)
        for name in ("dealing", "statement", "number", "moment", "throws", "results", "following"):
            self.assertIn(name, vars(home[0]))

    def test_no_entry(self):
        home = Home(TABLE)
        home.run(PUT)
        for thing in any_objects() + [-1, 1, True, "0", None]:
            if not (isinstance(thing, int) and not isinstance(thing, bool) and thing == 0):
                self.fails(NoEntry, [thing], lambda: home[thing])
        self.assertEqual(home[0].statement, PUT)

    def test_changed_entries_change_nothing(self):
        home = Home(TABLE, words=Calls("p", "q"))
        home.run(Change(NEW, THROW, how="values"))
        home.run(Drop(NEW, how="rows"))
        home.entries().clear()
        for place in (0, 1):
            one = home[place]
            for held in (one.throws, one.results):
                if held is not None:
                    held.clear()
        self.assertEqual(home[0].throws, {1: "p", 3: "q"})
        copy = Copy(TABLE)
        copy.follow(home)
        self.assertEqual(copy.table, home.table)

    def test_guards_may_keep_a_moment_from_being_used(self):
        home = Home(TABLE, words=Calls("p"))
        self.assertEqual(home.run(Change(NEW, MOMENT, when=("none", ALL), how="values")), [])
        self.assertEqual(home[0].moment, "p")


class CopyTest(StoreCase):
    def check(self, copy, place, halted=None, table=None):
        self.assertEqual((copy.place, copy.halted), (place, halted))
        self.assertEqual(copy.following, copy.table.following)
        if table is not None:
            self.assertEqual(copy.table, table)

    def test_the_example(self):
        c = Columns([("state", ("new", "old"))])
        for by, numbers in (([], [2]), (["number"], [1])):
            table = Table(c, {1: ("new",), 2: ("new",)})
            home, copy = Home(table), Copy(table, lying=lambda numbers: numbers[::-1])
            change = Change(has(c, "state", ["new"]), [{"state": ("value", "old")}], by=by)
            self.assertEqual(home.run(change), [1])
            self.assertEqual(copy.step(home), numbers)
            self.assertEqual(home.table == copy.table, numbers == [1])

    def test_made(self):
        copy = Copy(TABLE)
        self.assertEqual((copy.columns, copy.table), (C, TABLE))
        self.check(copy, 0)
        for name in ("columns", "following", "place", "halted"):
            self.assertIn(name, vars(copy))
        copy = Copy(table=TABLE, lying=None, words=None, triggers=[SEEN], place=LONG)
        self.check(copy, LONG)
        with self.assertRaises(TypeError):
            Copy(TABLE, 0)

    def test_each_way_of_telling(self):
        home = Home(TABLE, words=Calls("p", "q", "r", "t", "u", "v", "x", "y"), triggers=[SEEN])
        change = Change(NEW, {"f": ("throw",), "s": ("value", "old")})
        for how in ("words", "values", "rows"):
            home.run(change.told(how))
            home.run(Change(OLD, {"s": ("value", "new"), "f": ("value", "w")}))
        copy = Copy(TABLE, words=Calls("x", "y", "z"))
        self.assertEqual(copy.step(home), [1, 3])
        self.check(copy, 1, table=Table(C, {1: ("old", "x"), 3: ("old", "y"), 4: ("old", "c")}, following=6))
        self.assertEqual(copy.step(home), [1, 3, 4])
        self.assertEqual(copy.step(home), [1, 3, 4])
        self.assertEqual(copy.table.rows(), {1: ("old", "r"), 3: ("old", "t"), 4: ("old", "u")})
        copy.step(home)
        copy.step(home)
        self.assertEqual(copy.table.rows(), {number: ("old", "seen") for number in (1, 3, 4)})

    def test_puts(self):
        home = Home(TABLE)
        for how in ("values", "words", "rows"):
            home.run(Put(C, ("new", how[:1]), how=how))
        small = Table(C, {}, following=1)
        copy = Copy(small, place=1)
        self.assertEqual(copy.step(home), [1])
        self.assertEqual(copy.step(home), [8])
        self.check(copy, 3, table=Table(C, {1: ("new", "w"), 8: ("new", "r")}))
        copy = Copy(Table(C, {6: ("old", "x"), 20: ("old", "y")}))
        self.assertEqual(copy.step(home), [6])
        self.assertEqual(copy.table, Table(C, {6: ("new", "v"), 20: ("old", "y")}))
        self.assertEqual(copy.step(home), [21])
        self.assertEqual(copy.step(home), [8])
        self.assertEqual(copy.following, 22)

    def test_a_put_that_the_guard_keeps_from_putting(self):
        home = Home(Table(C, {}, following=9))
        home.run(Put(C, ("new", "w"), when=("none", ALL), how="values"))
        copy = Copy(TABLE)
        self.assertEqual(copy.step(home), [])
        self.check(copy, 1, table=Table(C, ROWS, following=10))

    def test_told_rows_in_the_order_of_home(self):
        home = Home(TABLE)
        self.assertEqual(home.run(Drop(ALL, most=2, by=["-number"], how="rows")), [4, 3])
        self.assertEqual(Copy(Table(C, {})).step(home), [4, 3])

    def test_throws_that_are_told_and_others(self):
        home = Home(TABLE, words=Calls("p"))
        home.run(Change(NEW, [THROW], how="values"))
        copy = Copy(TABLE, lying=Calls([1, 3, 4]))
        self.assertEqual(copy.step(home), [1])
        self.assertEqual(copy.table, home.table)
        words = Calls("x")
        copy = Copy(TABLE, lying=Calls([4, 3, 1]), words=words)
        self.assertEqual(copy.step(home), [3])
        self.assertEqual((copy.table[3], len(words.passed)), (("new", "x"), 1))

    def test_errors_of_step(self):
        home = Home(TABLE, words=Calls("p", "q", "r", "t", "u"))
        home.run(Change(NEW, [THROW]))
        for lying in (None, Calls([1, 3, 4])):
            copy = Copy(TABLE, lying=lying)
            self.fails(NoWords, [], copy.step, home)
            self.check(copy, 0, table=TABLE)
        copy = Copy(TABLE, words=Calls("a", "z"))
        self.fails(BadWord, ["a"], copy.step, home)
        self.check(copy, 0, table=TABLE)
        self.assertEqual(copy.step(home), [1])
        for order in any_objects():
            copy = Copy(TABLE, lying=lambda numbers: order)
            self.fails(BadOrder, [order], copy.step, home)
            self.check(copy, 0, table=TABLE)
        for place in (1, 2, LONG):
            self.fails(NoEntry, [place], Copy(TABLE, place=place).step, home)
        other = Copy(Table(OTHER, {}))
        self.fails(BadStatement, ["statement"], other.step, home)
        home.run(Drop(OLD, how="rows"))
        other = Copy(Table(OTHER, {}), place=1)
        self.fails(BadStatement, ["statement"], other.step, home)
        self.check(other, 1, table=Table(OTHER, {}))

    def test_halting(self):
        home = Home(TABLE, words=Calls("p"))
        home.run(PUT)
        home.run(Change(NEW, MOMENT, must=True))
        home.run(PUT)
        table = Table(C, {2: ("old", "a")})
        copy = Copy(table, place=1, words=Calls())
        for _ in range(3):
            self.fails(Halted, [1], copy.step, home=home)
            self.check(copy, 1, 1, table)
        self.fails(Halted, [1], copy.again, home)
        self.fails(Halted, [1], copy.follow, home)
        self.assertEqual(copy.follow(home, upto=1), 0)
        self.assertIsNone(copy.skip())
        self.check(copy, 2, None, table)
        self.assertEqual(copy.step(home), [3])

    def test_follow(self):
        home = Home(TABLE)
        for _ in range(4):
            home.run(PUT)
        copy = Copy(TABLE)
        self.assertEqual(copy.follow(home, upto=3), 3)
        self.assertEqual(copy.follow(home, upto=2), 0)
        self.assertEqual(copy.follow(home, upto=-1), 0)
        self.assertEqual(copy.follow(home, upto=LONG), 1)
        self.assertEqual(copy.follow(home=home, upto=None), 0)
        self.check(copy, 4, table=home.table)
        beyond = Copy(TABLE, place=9)
        self.assertEqual(beyond.follow(home), 0)
        with self.assertRaises(TypeError):
            copy.follow(home, 3)

    def test_what_a_step_raises_goes_on(self):
        home = Home(TABLE, words=Calls("p", "q"))
        home.run(PUT)
        home.run(Change(OLD, MOMENT))
        copy = Copy(TABLE)
        self.fails(NoWords, [], copy.follow, home)
        self.check(copy, 1)
        self.assertEqual(copy.table[6], ("new", "w"))

    def test_again(self):
        home = Home(TABLE)
        home.run(PUT)
        home.run(Put(C, ("old", "x"), how="values"))
        copy = Copy(TABLE)
        self.fails(NoEntry, [-1], copy.again, home)
        copy.step(home)
        self.assertEqual(copy.again(home), [7])
        self.check(copy, 1)
        copy.step(home)
        self.assertEqual(copy.again(home=home), [7])
        self.assertEqual(copy.table, Table(C, {**ROWS, 6: ("new", "w"), 7: ("old", "x")}))
        copy = Copy(TABLE, place=5)
        self.fails(NoEntry, [4], copy.again, home)
        self.check(copy, 4)

    def test_again_that_fails_stays_back(self):
        home = Home(TABLE)
        home.run(Drop(OLD, must=True))
        copy = Copy(TABLE)
        copy.step(home)
        self.fails(Halted, [0], copy.again, home)
        self.check(copy, 0, 0)

    def test_skip_and_behind(self):
        home = Home(TABLE)
        copy = Copy(TABLE)
        self.assertEqual(copy.behind(home), 0)
        home.run(PUT)
        home.run(PUT)
        self.assertEqual(copy.behind(home), 2)
        copy.skip()
        self.assertEqual(copy.behind(home=home), 1)
        copy.skip()
        copy.skip()
        self.check(copy, 3, table=TABLE)
        self.assertEqual(copy.behind(home), 0)

    def test_triggers_of_the_copy(self):
        home = Home(TABLE)
        home.run(Change(NEW, AGE))
        triggers = [SEEN]
        copy = Copy(TABLE, triggers=triggers)
        triggers.clear()
        copy.step(home)
        self.assertEqual(copy.table.rows(), {1: ("old", "seen"), 3: ("old", "seen"), 4: ("old", "c")})
