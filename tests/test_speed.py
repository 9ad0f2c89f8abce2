"""The limits of the document: how long answers may take for the largest scripts, and for small ones."""

import time
import unittest

from tests.made import Maker, large_columns, large_maker
from toldthere.columns import Columns
from toldthere.endings import alike, endings
from toldthere.locks import LEVELS
from toldthere.looks import every, has
from toldthere.mends import mends
from toldthere.partings import halts, healed, parting, steady, twice, wide, without
from toldthere.scripts import Script
from toldthere.spreads import spread
from toldthere.statements import Change, Drop, Put, Trigger
from toldthere.tables import Table
from toldthere.weavings import Dealings, least_level, woven

# The document asks for a second or two, and for a small part of a second.
LONG, SHORT = 2, 0.5


def deciding(script):
    """All that is asked of a script of at most four statements in mends, and of any in the others."""
    fewer = Script(script.columns, script.statements()[:4], here=script.here, there=script.there)
    return [lambda: steady(script), lambda: parting(script), lambda: healed(script), lambda: halts(script),
            lambda: wide(script, 1), lambda: wide(script, 6), lambda: spread(script), lambda: twice(script, 0),
            lambda: without(script, len(script) - 1), lambda: mends(fewer)]


class SpeedTest(unittest.TestCase):
    def check(self, limit, calls, **told):
        for place, call in enumerate(calls):
            with self.subTest(place=place, **told):
                began = time.perf_counter()
                call()
                self.assertLess(time.perf_counter() - began, limit)

    def test_large_scripts(self):
        for seed in range(60):
            self.check(LONG, deciding(large_maker(seed).script(5, firsts=3 if seed % 2 else 2)), seed=seed)

    def test_scripts_of_which_all_is_open(self):
        """Nearly all rows are found, guards ask for much, and triggers are unlike."""
        columns = large_columns()[1]
        state = {word: has(columns, "s", [word]) for word in "abc"}
        some, rare = state["a"] | has(columns, "t", ["b"]), state["c"] & has(columns, "f", ["w"])
        takes = [Change(every(columns), [{"s": ("value", word)}], by=[by]) for word, by in
                 (("a", "s"), ("b", "-t"), ("c", "-s"))]
        here = [Trigger(some, {"t": ("value", "a")}), Trigger(rare, {"f": ("column", "f")}), Trigger(~some, {})]
        there = here[:2]
        guarded = [Change(~rare, {"f": ("throw",)}, when=("some", rare)), Drop(rare, when=("none", ~some))]
        for triggers in (here, there, []):
            for how in ("words", "values", "rows"):
                statements = [takes[0], guarded[0], takes[1].told(how), guarded[1].told(how), takes[2]]
                self.check(LONG, deciding(Script(columns, statements, here=triggers, there=there)), how=how)
        pair = [Drop(some, most=2, by=["s"]), guarded[1], Put(columns, ["a", "b", ("moment",)]), guarded[0],
                Change(every(columns), [{"t": ("value", "a")}], by=["-s", "number"])]
        self.check(LONG, deciding(Script(columns, pair, here=here, there=here)))

    def test_small_scripts(self):
        columns = Columns([("s", ["a", "b", "c"])], ["f"])
        for seed in range(60):
            maker = Maker(seed, columns, numbers=seed % 3 == 0)
            script = maker.script(1 + seed % 3)
            self.check(SHORT, deciding(script), seed=seed)

    def test_endings(self):
        for seed in range(40):
            maker = large_maker(seed, new=False)
            script, other = maker.script(5, firsts=2), maker.script(5, firsts=2)
            rows = {number: [maker.word(name) for name in maker.columns.names()] for number in range(1, 7)}
            self.check(LONG, [lambda: alike(script, script), lambda: alike(script, other),
                              lambda: endings(script, Table(maker.columns, rows))], seed=seed)

    def test_dealings(self):
        columns = Columns([("s", ["a", "b"])], ["f"])
        for seed in range(40):
            maker = Maker(seed, columns, numbers=seed % 3 == 0, words=("w", "x"))
            dealings = maker.dealings([[1, 1, 1], [2, 2], [3, 1]][seed % 3])
            self.check(LONG, [lambda: least_level(dealings), *[lambda level=level: woven(dealings, level)
                                                               for level in LEVELS]], seed=seed)

    def test_deep_looks(self):
        columns = large_columns()[1]
        maker = Maker(1, columns, numbers=True)
        looks = []
        for _ in range(9):
            look = maker.simple()
            for place in range(49):
                look = ~(look & maker.simple()) if place % 2 else look | maker.simple()
            looks.append(look)
        statements = [Change(looks[0], [{"s": ("value", "a")}], by=["s"], when=("some", looks[1])),
                      Drop(looks[2], most=1, by=["-s"]), Change(looks[3], {"f": ("value", "w")}, when=("none", looks[4])),
                      Put(columns, ["a", "b", "w"]), Change(looks[5], {"t": ("value", "a")})]
        triggers = [Trigger(look, {"t": ("value", "b")}) for look in looks[6:]]
        script = Script(columns, statements, here=triggers, there=triggers[1:])
        self.check(LONG, [*deciding(script), lambda: alike(script, script),
                          lambda: least_level(Dealings(columns, [statements[:1], [statements[4]]]))])
