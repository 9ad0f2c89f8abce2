"""[26] to [30]: dealings that are woven."""

import unittest

from tests import weaver
from tests.made import small_maker
from tests.samples import any_objects, check_equal
from tests.stepped import happens_woven
from tests.tables import states
from toldthere.columns import Columns
from toldthere.errors import BadDealings, BadLevel, BadStatement, BadTrigger
from toldthere.looks import every, has, numbered
from toldthere.partings import Parting, steady
from toldthere.scripts import Script
from toldthere.statements import Change, Drop, Put, Trigger
from toldthere.tables import Table
from toldthere.weavings import Dealings, Woven, least_level, weavings, woven

C = Columns([("s", ["new", "old"])], ["f"])
OTHER = Columns([("s", ["new", "old"])], ["g"])
NEW, OLD, ALL = has(C, "s", ["new"]), has(C, "s", ["old"]), every(C)
AGE = Change(NEW, {"s": ("value", "old")})
DROP = Drop(OLD)
PUT = Put(C, ("new", "w"))
HERE, THERE = Trigger(OLD, {"f": ("value", "w")}), Trigger(NEW, {})
LEVELS = ("rows", "found", "looks")
SHAPES = [[1], [1, 1], [2, 1], [1, 2], [1, 1, 1], [2, 2], [1, 3], [3, 1]]


class DealingsTest(unittest.TestCase):
    def test_made(self):
        one = Dealings(C, [[PUT, AGE], (DROP,)], here=[HERE], there=(THERE, HERE))
        self.assertEqual(one.columns, C)
        self.assertEqual(one.statements(), [[PUT, AGE], [DROP]])
        self.assertEqual(len(one), 2)
        self.assertEqual(len(Dealings(C, ([PUT],))), 1)
        self.assertEqual(len(Dealings(dealings=[[PUT]] * 3, columns=C, there=[], here=())), 3)
        self.assertIn("columns", vars(one))
        with self.assertRaises(TypeError):
            Dealings(C, [[PUT]], [HERE])

    def test_alone(self):
        one = Dealings(C, [[PUT, AGE], [DROP]], here=[HERE], there=[THERE, HERE])
        self.assertEqual(one.alone(0), Script(C, [PUT, AGE], here=[HERE], there=[THERE, HERE]))
        self.assertEqual(one.alone(d=1), Script(C, [DROP], here=[HERE], there=[THERE, HERE]))

    def test_told(self):
        one = Dealings(C, [[PUT, AGE.told("rows")], [DROP]], here=[HERE], there=[THERE])
        for how in ("words", "values", "rows"):
            told = one.told(how)
            self.assertEqual(told, Dealings(C, [[PUT.told(how), AGE.told(how)], [DROP.told(how)]],
                                            here=[HERE], there=[THERE]))
        for how in any_objects() + ["word", "Rows", None]:
            with self.assertRaises(BadStatement) as caught:
                one.told(how)
            self.assertEqual(caught.exception.part, "how")

    def test_equal(self):
        made = [Dealings(C, [[PUT]]), Dealings(C, [[PUT], [PUT]]), Dealings(C, [[PUT, PUT]]), Dealings(C, [[AGE]]),
                Dealings(C, [[PUT.told("rows")]]), Dealings(C, [[PUT]], here=[HERE]), Dealings(C, [[PUT]], there=[HERE]),
                Dealings(OTHER, [[Put(OTHER, ("new", "w"))]]), Dealings(C, [[PUT], [AGE]]), Dealings(C, [[AGE], [PUT]])]
        for place, one in enumerate(made):
            for other_place, other in enumerate(made):
                check_equal(self, one, other, place == other_place)
            for thing in any_objects() + [one.alone(0), one.statements()]:
                check_equal(self, one, thing, False)
        check_equal(self, made[0], Dealings(C, ((PUT,),), here=()), True)

    def wrong(self, index, dealings):
        with self.subTest(dealings=dealings), self.assertRaises(BadDealings) as caught:
            Dealings(C, dealings, here="x")
        self.assertEqual(caught.exception.index, index)

    def test_bad_dealings(self):
        for thing in any_objects() + [Dealings(C, [[PUT]]), Script(C, [PUT])]:
            if not isinstance(thing, (list, tuple)) or len(thing) == 0:
                self.wrong(0, thing)
            self.wrong(0, [thing])
            self.wrong(1, [[PUT], thing, []])
            self.wrong(2, [[PUT], [PUT], [AGE, thing], [PUT]])
        self.wrong(3, [[PUT]] * 4)
        self.wrong(3, [[PUT]] * 3 + [[]] * 3)
        self.wrong(1, [[PUT], []])
        self.wrong(1, [[PUT], PUT])
        self.wrong(0, [[Put(OTHER, ("new", "w"))]])

    def test_bad_triggers(self):
        foreign = Trigger(every(OTHER), {})
        for thing in any_objects() + [HERE, [foreign], [HERE, None], {0: HERE}]:
            if thing in ([], ()):
                continue
            for here, there, part in ((thing, thing, "here"), ([HERE], thing, "there")):
                with self.subTest(thing=thing), self.assertRaises(BadTrigger) as caught:
                    Dealings(C, [[PUT]], here=here, there=there)
                self.assertEqual(caught.exception.part, part)

    def test_later_changes_have_no_effect(self):
        lists, here, there = [[PUT], [AGE]], [HERE], [THERE]
        one = Dealings(C, lists, here=here, there=there)
        lists[0].append(AGE)
        lists.pop()
        here.clear()
        there.append(HERE)
        one.statements()[0].append(DROP)
        one.statements().clear()
        self.assertEqual(one, Dealings(C, [[PUT], [AGE]], here=[HERE], there=[THERE]))


class WeavingsTest(unittest.TestCase):
    def test_all_in_their_order(self):
        for lengths in SHAPES + [[4], [2], [2, 1, 1]]:
            found = weavings(Dealings(C, [[PUT] * length for length in lengths]))
            self.assertEqual(found, weaver.weavings(lengths))
            self.assertEqual([[d for d, _ in weaving] for weaving in found],
                             sorted([d for d, _ in weaving] for weaving in found))
            self.assertIs(type(found), list)
            self.assertTrue(all(type(weaving) is tuple for weaving in found))

    def test_by_hand(self):
        self.assertEqual(weavings(Dealings(C, [[PUT]])), [((0, 0), (0, None))])
        found = weavings(dealings=Dealings(C, [[PUT], [AGE]]))
        self.assertEqual(len(found), 6)
        self.assertEqual(found[0], ((0, 0), (0, None), (1, 0), (1, None)))
        self.assertEqual(found[1], ((0, 0), (1, 0), (0, None), (1, None)))
        self.assertEqual(len(weavings(Dealings(C, [[PUT]] * 3))), 90)
        found.clear()
        self.assertEqual(len(weavings(Dealings(C, [[PUT], [AGE]]))), 6)


class WovenTest(unittest.TestCase):
    def check(self, dealings, level, rows):
        """Checks the number of rows of the smallest table at a level, None if home and copy stay alike."""
        found = woven(dealings, level)
        if rows is None:
            self.assertIsNone(found)
            return None
        self.assertIs(type(found), Woven)
        self.assertIs(type(found.parting), Parting)
        self.assertIn(found.weaving, weavings(dealings))
        weaver.check(dealings, level, found)
        happens_woven(dealings, found, level)
        self.assertEqual(len(found.parting.start), rows)
        return found

    def test_by_chance(self):
        levels = []
        for seed in range(90):
            maker = small_maker(seed)
            if seed % 6 == 5:
                # Two free columns have too many kinds of rows for the oracle.
                continue
            lengths = SHAPES[seed % len(SHAPES)]
            dealings = maker.dealings(lengths)
            most = 2 if len(maker.columns) == 1 and not maker.numbers else 1
            with self.subTest(seed=seed):
                found = []
                for level in LEVELS:
                    least = next((len(state[0]) for state in states(maker, most)
                                  if any(weaver.parts(dealings, state, level, weaving)
                                         for weaving in weaver.weavings(lengths))), None)
                    one = woven(dealings, level)
                    self.assertTrue(least is None and (one is None or len(one.parting.start) > most)
                                    or one is not None and len(one.parting.start) == least)
                    if one is not None:
                        self.check(dealings, level, len(one.parting.start))
                    found.append(one is None)
                levels.append(least_level(dealings))
                self.assertEqual(levels[-1], next((level for level, none in zip(LEVELS, found) if none), None))
        self.assertTrue(all(levels.count(level) > 1 for level in (None, "rows", "looks")))

    def test_the_example(self):
        dealings = Dealings(C, [[DROP], [AGE]])
        self.check(dealings, "rows", 1)
        self.check(dealings, "found", 1)
        self.check(dealings, "looks", None)
        self.assertEqual(least_level(dealings), "looks")
        state = ({1: ("new", "a")}, 2)
        barred = ((1, 0), (0, 0), (0, None), (1, None))
        happening = ((0, 0), (1, 0), (1, None), (0, None))
        for level in LEVELS:
            self.assertEqual(weaver.home_runs(dealings, state, level, barred), [])
            self.assertEqual(bool(weaver.home_runs(dealings, state, level, happening)), level != "looks")

    def test_each_level(self):
        # The guard of the drop finds what the change leaves; but then its own look finds no row any more.
        named = has(C, "f", ["w"])
        dealings = Dealings(C, [[Drop(~named, when=("some", named))], [Change(ALL, {"f": ("value", "w")})]])
        self.check(dealings, "rows", 2)
        self.check(dealings, "found", None)
        self.assertEqual(least_level(dealings), "found")
        guarded = Put(C, ("old", "w"), when=("some", NEW), how="values")
        dealings = Dealings(C, [[guarded], [AGE]])
        self.check(dealings, "found", 1)
        self.check(dealings, "looks", None)
        self.assertEqual(least_level(Dealings(C, [[Drop(numbered(C, [1]))], [Drop(numbered(C, [2]))]])), "rows")
        self.assertIsNone(least_level(Dealings(C, [[Drop(ALL, most=1)], [Drop(NEW)]])))

    def test_a_statement_that_is_not_run_does_not_use_its_look(self):
        named = has(C, "f", ["w"])
        dealings = Dealings(C, [[Drop(NEW, when=("some", named))], [Change(NEW, {"f": ("value", "w")})]])
        self.check(dealings, "found", 1)
        self.check(dealings, "looks", None)
        # Without a guard it is run, and one of them has to wait for the other one, or both take the row.
        dealings = Dealings(C, [[Drop(NEW)], [Change(NEW, {"f": ("value", "w")})]])
        self.check(dealings, "rows", None)

    def test_rows_that_are_put(self):
        # A row that is put is found by the look of the other dealing as it is left.
        dealings = Dealings(C, [[Put(C, ("old", "w"), how="values")], [Drop(OLD)]])
        self.check(dealings, "rows", 0)
        self.assertEqual(least_level(dealings), "looks")
        self.check(Dealings(C, [[PUT], [PUT]]), "looks", None)
        self.check(Dealings(C, [[PUT], [Put(C, ("old", "w"))]]), "looks", 0)
        self.check(Dealings(C, [[PUT], [Put(C, ("old", "w"))]]).told("values"), "rows", None)

    def test_weavings_in_which_a_statement_is_refused_do_not_count(self):
        never = Drop(NEW & OLD, must=True)
        for level in LEVELS:
            self.check(Dealings(C, [[Put(C, ("new", ("moment",))), never], [AGE]]), level, None)

    def test_halted_is_the_index_among_all(self):
        # At home the second dealing comes first and ends last.
        dealings = Dealings(C, [[AGE, Put(C, ("old", "w"))],
                                [Change(NEW, [{"s": ("value", "old")}], by=["number"], must=True)]])
        for level in ("rows", "found"):
            found = self.check(dealings, level, 1)
            self.assertEqual((found.parting.halted, len(found.parting.home), len(found.parting.copy)), (2, 3, 3))
            self.assertEqual(found.weaving, ((1, 0), (0, 0), (0, 1), (0, None), (1, None)))
        self.check(dealings, "looks", None)

    def test_entries_in_their_orders(self):
        moment = Put(C, ("new", ("moment",)))
        dealings = Dealings(C, [[moment, moment], [moment.told("rows")]])
        found = self.check(dealings, "looks", 0)
        self.assertEqual((len(found.parting.home), len(found.parting.copy)), (3, 3))

    def test_bad_level(self):
        dealings = Dealings(C, [[PUT]])
        for level in any_objects() + ["row", "Looks", "found ", None]:
            with self.subTest(level=level), self.assertRaises(BadLevel) as caught:
                woven(dealings, level)
            self.assertIs(caught.exception.level, level)
        self.assertIsNone(woven(level="rows", dealings=dealings))
        self.assertEqual(least_level(dealings=dealings), "rows")

    def test_woven_keeps_what_it_is_made_of(self):
        table = Table(C, {})
        parting = Parting(table, table, table, None, [], [])
        made = Woven(parting=parting, weaving=((0, 0), (0, None)))
        self.assertEqual(made.weaving, ((0, 0), (0, None)))
        self.assertIs(made.parting, parting)
        weaving = [[0, 0], (0, None)]
        made = Woven(weaving, parting)
        weaving[0][0] = 1
        weaving.clear()
        self.assertEqual(made.weaving, ((0, 0), (0, None)))


class HoldsTest(unittest.TestCase):
    """[30]."""

    def test_at_looks(self):
        count = 0
        for seed in range(300):
            maker = small_maker(seed * 3 + 1, new=seed % 2 == 0)
            self.assertFalse(maker.numbers)
            dealings = maker.dealings(SHAPES[seed % len(SHAPES)])
            dealings = Dealings(dealings.columns,
                                [[one.told("values") if one.kind == "put" and one.how == "words" else one
                                  for one in listed] for listed in dealings.statements()],
                                here=dealings.here, there=dealings.there)
            named = any(part in ("number", "-number") for listed in dealings.statements() for one in listed
                        for part in getattr(one, "by", ()))
            if not named and all(steady(dealings.alone(d)) for d in range(len(dealings))):
                count += 1
                self.assertIsNone(woven(dealings, "looks"))
        self.assertGreater(count, 50)

    def test_told_as_rows(self):
        for seed in range(60):
            dealings = small_maker(seed).dealings(SHAPES[seed % len(SHAPES)]).told("rows")
            for level in LEVELS:
                self.assertIsNone(woven(dealings, level))
            self.assertEqual(least_level(dealings), "rows")
