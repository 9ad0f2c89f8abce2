"""[15] and [3]: scripts."""

import unittest

from tests.parts import AGE, C, GUARD, MOMENT, NEW, OLD, OTHER, ROW, TURNED, make
from tests.samples import LONG, any_objects, check_equal, same_thing
from toldthere.errors import BadScript, BadTrigger, NoStatement, UnlikeColumns
from toldthere.looks import every, has
from toldthere.scripts import Script
from toldthere.statements import Change, Drop, Put, Trigger

PUT, DROP, CHANGE = Put(C, ROW), Drop(NEW, most=1), Change(NEW, AGE)
FIRST, SECOND = Trigger(NEW, AGE), Trigger(OLD, {"past": ("value", "old")})
FOREIGN = [Put(OTHER, ("new", "anna")), Drop(every(OTHER)), Change(every(TURNED), {}), Put(TURNED, ROW)]


class ScriptCase(unittest.TestCase):
    def wrong(self, error, thing, make_it, *arguments, **named):
        with self.subTest(error=error, thing=thing):
            with self.assertRaises(error) as caught:
                make_it(*arguments, **named)
            self.assertTrue(same_thing(list(vars(caught.exception).values()), [thing]))

    def holds(self, script, statements):
        """Checks that a script has these very statements."""
        found = script.statements()
        self.assertIs(type(found), list)
        self.assertEqual(len(script), len(statements))
        self.assertEqual(len(found), len(statements))
        for index, statement in enumerate(statements):
            self.assertIs(found[index], statement)
            self.assertIs(script[index], statement)


class MadeTest(ScriptCase):
    def test_statements(self):
        for statements in ([], [PUT], [DROP, DROP], [PUT, DROP, CHANGE], [PUT, DROP, CHANGE, DROP, PUT, CHANGE, DROP]):
            self.holds(Script(C, statements), statements)
            self.holds(Script(make(), tuple(statements), here=[FIRST], there=(SECOND, FIRST)), statements)

    def test_arguments_by_name(self):
        one = Script(there=[SECOND], here=[FIRST], statements=[PUT], columns=C)
        self.assertEqual(one, Script(C, (PUT,), here=(FIRST,), there=(SECOND,)))
        with self.assertRaises(TypeError):
            Script(C, [PUT], [FIRST])

    def test_statements_is_a_new_list(self):
        script = Script(C, [PUT, DROP])
        found = script.statements()
        found[0] = CHANGE
        found.append(PUT)
        self.holds(script, [PUT, DROP])

    def test_statements_that_were_told_otherwise(self):
        statements = [PUT.told("rows"), DROP.by_number(), CHANGE.told("values").by_number()]
        self.holds(Script(C, statements), statements)

    def test_later_changes_have_no_effect(self):
        statements, here, there = [PUT, DROP], [FIRST], [SECOND]
        script = Script(C, statements, here=here, there=there)
        self.assertEqual((statements, here, there), ([PUT, DROP], [FIRST], [SECOND]))
        statements.append(CHANGE)
        statements[0] = DROP
        here.append(SECOND)
        there.clear()
        self.holds(script, [PUT, DROP])
        check_equal(self, script, Script(C, [PUT, DROP], here=[FIRST], there=[SECOND]), True)

    def test_methods_stand_in_the_class(self):
        self.assertEqual(Script.__module__, "toldthere.scripts")
        for method in ("__init__", "statements", "exchanged"):
            self.assertIn(method, Script.__dict__)
        for sign in ("getitem", "len", "add", "iadd", "eq"):
            self.assertIn(f"__{sign}__", Script.__dict__)


class WrongTest(ScriptCase):
    def test_statements_that_are_no_list(self):
        for statements in any_objects() + [PUT, Script(C, [PUT]), {0: PUT}, "put", None]:
            if not isinstance(statements, (list, tuple)):
                self.wrong(BadScript, 0, Script, C, statements)
                self.wrong(BadScript, 0, Script, C, statements, here=None, there=None)

    def test_things_that_are_no_statements(self):
        kinds = (Put, Drop, Change)
        for thing in [thing for thing in any_objects() if not isinstance(thing, kinds)] + FOREIGN + [NEW, FIRST, [PUT]]:
            self.wrong(BadScript, 0, Script, C, [thing])
            self.wrong(BadScript, 0, Script, C, (thing, None))
            self.wrong(BadScript, 2, Script, C, [PUT, DROP, thing, CHANGE])
            self.wrong(BadScript, 1, Script, C, (PUT, thing, PUT, thing))
            self.wrong(BadScript, 1, Script, C, [PUT, thing], here=None, there=[None])

    def test_triggers(self):
        wrong = [thing for thing in any_objects() if not isinstance(thing, (list, tuple)) or len(thing) > 0]
        foreign = Trigger(every(OTHER), {})
        for thing in wrong + [FIRST, {0: FIRST}, [PUT], [FIRST, None], (NEW,), [AGE], [foreign], (FIRST, foreign),
                              [[FIRST]], [Trigger(every(TURNED), {})]]:
            self.wrong(BadTrigger, "here", Script, C, [PUT], here=thing)
            self.wrong(BadTrigger, "there", Script, C, [PUT], there=thing)
            self.wrong(BadTrigger, "here", Script, C, [PUT], here=thing, there=thing)
            self.wrong(BadTrigger, "there", Script, C, [PUT], here=[FIRST], there=thing)

    def test_no_index(self):
        script = Script(C, [PUT, DROP])
        for index in any_objects() + [-1, -2, -3, 2, 3, LONG, -LONG, True, False, None, "0", [0], (1,), {0: 1}, PUT]:
            if isinstance(index, bool) or index not in (0, 1):
                self.wrong(NoStatement, index, lambda: script[index])
                self.wrong(NoStatement, index, script.exchanged, index, CHANGE)
                self.wrong(NoStatement, index, script.exchanged, index, None)
        self.wrong(NoStatement, 0, lambda: Script(C, [])[0])
        self.wrong(NoStatement, -1, lambda: Script(C, [])[-1])

    def test_no_iteration(self):
        with self.assertRaises(TypeError):
            iter(Script(C, [PUT]))


class ExchangedTest(ScriptCase):
    def test_each_index(self):
        script = Script(C, [PUT, DROP, CHANGE], here=[FIRST], there=[SECOND])
        for index in range(3):
            for statement in (PUT, DROP, CHANGE, Put(C, ("old", "old", MOMENT), when=GUARD)):
                expected = [PUT, DROP, CHANGE]
                expected[index] = statement
                found = script.exchanged(index, statement)
                self.holds(found, expected)
                check_equal(self, found, Script(C, expected, here=[FIRST], there=[SECOND]), True)
        self.holds(script, [PUT, DROP, CHANGE])
        self.holds(script.exchanged(statement=PUT, index=2), [PUT, DROP, PUT])

    def test_very_statement(self):
        script, again = Script(C, [PUT, DROP]), Drop(has(C, "state", ["new"]), most=1)
        self.assertEqual(again, DROP)
        found = script.exchanged(1, again)
        self.assertIs(found[1], again)
        self.assertIs(script[1], DROP)
        check_equal(self, found, script, True)

    def test_bad_script(self):
        script = Script(C, [PUT, DROP, CHANGE])
        for thing in any_objects() + FOREIGN + [None, FIRST, NEW, [PUT]]:
            if not isinstance(thing, (Put, Drop, Change)) or thing.columns != C:
                self.wrong(BadScript, 0, script.exchanged, 0, thing)
                self.wrong(BadScript, 2, script.exchanged, 2, thing)
                self.wrong(NoStatement, 3, script.exchanged, 3, thing)
        self.holds(script, [PUT, DROP, CHANGE])


class SumTest(ScriptCase):
    def test_sum(self):
        one, other = Script(C, [PUT, DROP], here=[FIRST], there=[SECOND]), Script(make(), [CHANGE, PUT], here=[SECOND])
        self.holds(one + other, [PUT, DROP, CHANGE, PUT])
        check_equal(self, one + other, Script(C, [PUT, DROP, CHANGE, PUT], here=[FIRST], there=[SECOND]), True)
        check_equal(self, other + one, Script(C, [CHANGE, PUT, PUT, DROP], here=[SECOND]), True)
        self.holds(one, [PUT, DROP])
        self.holds(other, [CHANGE, PUT])
        self.holds(one + one + Script(C, [CHANGE] * 3), [PUT, DROP, PUT, DROP] + [CHANGE] * 3)

    def test_sum_with_none(self):
        one, none = Script(C, [PUT], here=[FIRST], there=[SECOND]), Script(C, [])
        check_equal(self, one + none, one, True)
        check_equal(self, none + one, Script(C, [PUT]), True)
        self.holds(none, [])

    def test_sum_in_place(self):
        one = kept = Script(C, [PUT], here=[FIRST], there=[SECOND])
        other = Script(C, [DROP], there=[FIRST])
        one += other
        check_equal(self, one, Script(C, [PUT, DROP], here=[FIRST], there=[SECOND]), True)
        self.holds(one, [PUT, DROP])
        self.holds(kept, [PUT])
        self.holds(other, [DROP])
        check_equal(self, kept, Script(C, [PUT], here=[FIRST], there=[SECOND]), True)
        scripts = {"a": kept}
        scripts["a"] += scripts["a"]
        self.holds(scripts["a"], [PUT, PUT])

    def test_unlike_columns(self):
        one = kept = Script(C, [PUT])
        for other in (Script(OTHER, []), Script(TURNED, []), Script(OTHER, FOREIGN[:2])):
            with self.assertRaises(UnlikeColumns):
                one + other
            with self.assertRaises(UnlikeColumns):
                other + one
            with self.assertRaises(UnlikeColumns):
                one += other
        self.assertIs(one, kept)
        self.holds(one, [PUT])

    def test_no_script(self):
        with self.assertRaises(TypeError):
            Script(C, [PUT]) + [DROP]
        with self.assertRaises(TypeError):
            [DROP] + Script(C, [PUT])


class EqualTest(ScriptCase):
    def test_equal_parts(self):
        one = Script(C, [PUT, DROP, CHANGE], here=[FIRST, SECOND], there=[SECOND])
        again = Script(make(), (Put(make(), list(ROW)), Drop(~has(make(), "state", ["old"]), most=1),
                                Change(NEW, {"state": ["value", "old"]})),
                       here=(Trigger(~OLD, AGE), SECOND), there=(Trigger(OLD, {"past": ["value", "old"]}),))
        check_equal(self, one, again, True)
        check_equal(self, one, one, True)
        check_equal(self, Script(C, []), Script(make(), ()), True)

    def test_each_part(self):
        one = Script(C, [PUT, DROP], here=[FIRST], there=[SECOND])
        for other in (Script(C, [PUT, CHANGE], here=[FIRST], there=[SECOND]),
                      Script(C, [DROP, PUT], here=[FIRST], there=[SECOND]),
                      Script(C, [PUT], here=[FIRST], there=[SECOND]),
                      Script(C, [PUT, DROP, DROP], here=[FIRST], there=[SECOND]),
                      Script(C, [PUT, DROP.told("rows")], here=[FIRST], there=[SECOND]),
                      Script(C, [PUT, DROP], here=[SECOND], there=[FIRST]),
                      Script(C, [PUT, DROP], here=[SECOND], there=[SECOND]),
                      Script(C, [PUT, DROP], here=[FIRST], there=[FIRST]),
                      Script(C, [PUT, DROP], here=[FIRST]), Script(C, [PUT, DROP], there=[SECOND]),
                      Script(C, [PUT, DROP], here=[FIRST, FIRST], there=[SECOND]),
                      Script(C, [PUT, DROP], here=[FIRST], there=[SECOND, FIRST])):
            check_equal(self, one, other, False)

    def test_order_of_triggers(self):
        check_equal(self, Script(C, [], here=[FIRST, SECOND]), Script(C, [], here=[SECOND, FIRST]), False)
        check_equal(self, Script(C, [], there=[FIRST, SECOND]), Script(C, [], there=[SECOND, FIRST]), False)

    def test_columns(self):
        check_equal(self, Script(C, []), Script(OTHER, []), False)
        check_equal(self, Script(C, []), Script(TURNED, []), False)

    def test_other_objects(self):
        one = Script(C, [PUT, DROP])
        for other in any_objects() + [[PUT, DROP], (PUT, DROP), PUT, [one], C]:
            check_equal(self, one, other, False)
        for other in any_objects():
            check_equal(self, Script(C, []), other, False)
