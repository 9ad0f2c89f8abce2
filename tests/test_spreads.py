"""[20]: in how many numbers home and copy can be unlike."""

import unittest

from tests.made import large_maker, small_maker
from tests.tables import Smallest
from toldthere.columns import Columns
from toldthere.looks import every, has, numbered
from toldthere.partings import parting, wide
from toldthere.scripts import Script
from toldthere.spreads import spread
from toldthere.statements import Change, Drop, Put, Trigger

C = Columns([("s", ["new", "old"])], ["f"])
NEW, OLD, ALL = has(C, "s", ["new"]), has(C, "s", ["old"]), every(C)
AGE = {"s": ("value", "old")}
MOMENT, THROW = {"f": ("moment",)}, {"f": ("throw",)}


class SpreadTest(unittest.TestCase):
    def spreads(self, most, *statements, **triggers):
        script = Script(C, statements, **triggers)
        self.assertEqual(spread(script), most)
        self.assertIsNot(spread(script), False)

    def test_no_greatest_number(self):
        self.spreads(None, Change(NEW, THROW))
        self.spreads(None, Change(NEW, MOMENT))
        self.spreads(None, Change(NEW, AGE), there=[Trigger(OLD, {"f": ("value", "w")})])
        self.spreads(None, Drop(ALL, most=1), Drop(ALL, when=("none", has(C, "f", ["w"]))))

    def test_none_at_all(self):
        self.spreads(0)
        self.spreads(0, Change(NEW, THROW, how="values"))
        self.spreads(0, Change(NEW, MOMENT, how="rows"), Drop(NEW, most=1, by=["number"]))
        self.spreads(0, Change(NEW, MOMENT), Drop(NEW))
        # Where several rows were found, all are dropped; where just one was, it is the same.
        self.spreads(0, Drop(NEW, most=1), Drop(ALL, when=("some", NEW)))
        self.spreads(0, Change(NEW, [AGE, {}]), Change(ALL, AGE, when=("some", NEW)))

    def test_first_rows(self):
        self.spreads(2, Change(NEW, [AGE]))
        self.spreads(4, Change(NEW, [AGE, AGE]))
        self.spreads(4, Drop(ALL, most=2))
        self.spreads(4, Drop(ALL, most=1), Change(NEW, [AGE]))
        self.spreads(2, Drop(numbered(C, [1, 2]), most=1))
        self.spreads(2, Drop(numbered(C, [1, 2, 3]), most=2))
        self.spreads(2, Change(NEW, [AGE]), Drop(ALL, when=("none", NEW)))
        self.spreads(0, Drop(numbered(C, [1, 2]), most=2))
        self.spreads(1, Change(ALL, [THROW], by=["-number"]))

    def test_numbers_that_looks_name_and_puts_draw(self):
        self.spreads(3, Change(numbered(C, [1, 2, 4]), THROW))
        self.spreads(2, Put(C, ("new", ("moment",))), Put(C, ("old", ("moment",))))
        self.spreads(3, Put(C, ("new", "w")), Put(C, ("new", "w")), Change(numbered(C, [2, 3, 4]), THROW))

    def test_runs_in_which_the_copy_halts_do_not_count(self):
        script = Script(C, [Drop(numbered(C, [1, 2]), most=1), Drop(numbered(C, [1]), must=True),
                            Drop(numbered(C, [2]))])
        self.assertIsNotNone(parting(script))
        self.assertEqual(spread(script), 0)

    def test_no_run_at_all(self):
        self.spreads(0, Change(ALL, MOMENT), Drop(NEW & OLD, must=True))
        # The copy halts whenever home is not refused.
        self.spreads(0, Change(ALL, AGE), Drop(OLD & has(C, "f", ["w"]), must=True),
                     here=[Trigger(OLD, {"f": ("value", "w")})], there=[Trigger(OLD, {"s": ("value", "new")})])

    def test_by_chance(self):
        for seed in range(200):
            maker = small_maker(seed)
            script = maker.script(1 + seed % 4)
            with self.subTest(seed=seed):
                most = spread(script)
                found = max(Smallest(maker, script, 2).wide, default=0)
                if most is None:
                    self.assertIsNotNone(wide(script, 9))
                else:
                    self.assertGreaterEqual(most, found)
                    self.assertIsNone(wide(script, most + 1))
                    self.assertTrue(most == 0 or wide(script, most) is not None)

    def test_large_scripts(self):
        for seed in range(20):
            script = large_maker(seed).script(5)
            most = spread(script)
            with self.subTest(seed=seed):
                self.assertIs(wide(script, 12) is None, most is not None and most < 12)

    def test_by_name(self):
        self.assertEqual(spread(plan=Script(C, [Drop(NEW, most=1)])), 2)
