"""Columns, looks, statements, triggers, scripts and dealings that are made by chance, always the same by a seed."""

import random

from toldthere.columns import Columns
from toldthere.looks import every, has, numbered, same
from toldthere.scripts import Script
from toldthere.statements import Change, Drop, Put, Trigger
from toldthere.weavings import Dealings

HOWS = ("words", "words", "words", "values", "rows")


def small_columns():
    """Columns with few kinds of rows."""
    return [Columns([("s", ["a", "b"])]), Columns([("s", ["a", "b"])], ["f"]), Columns([], ["f"]),
            Columns([("s", ["a", "b"]), ("t", ["a", "b"])]), Columns([("s", ["a", "b", "c"])]),
            Columns([], ["f", "g"])]


def large_columns():
    """Columns with twelve kinds of rows, or ten, if looks name the words w and x."""
    return [Columns([("s", ["a", "b", "c"]), ("t", ["a", "b"]), ("u", ["a", "b"])]),
            Columns([("s", ["a", "b", "c"]), ("t", ["a", "b"])], ["f"]), Columns([("s", ["a", "b"])], ["f", "g"]),
            Columns([], ["f", "g"])]


class Maker:
    """Makes parts of scripts of some columns; numbers tells whether looks name numbers."""

    def __init__(self, seed, columns, *, numbers=False, words=("w",), new=True):
        self.random = random.Random(seed)
        self.columns, self.numbers, self.words, self.new = columns, numbers, words, new
        self.told = [name for name in columns.names() if columns.told_values(name) is not None]

    def chance(self, part):
        return self.random.random() < part

    def pick(self, things):
        return self.random.choice(list(things))

    def word(self, name):
        return self.pick(self.columns.told_values(name) or self.words)

    def simple(self):
        """A look that is not made of others."""
        names, kind = self.columns.names(), self.random.random()
        if kind < 0.2:
            return every(self.columns)
        if self.numbers and kind < 0.35:
            return numbered(self.columns, [self.pick([1, 1, 2, 2, 3, 4]) for _ in range(self.pick([1, 2]))])
        if len(names) > 1 and kind < 0.5:
            one, other = self.random.sample(names, 2)
            if self.columns.told_values(one) == self.columns.told_values(other):
                return same(self.columns, one, other)
        name = self.pick(names)
        values = self.columns.told_values(name) or self.words
        return has(self.columns, name, self.random.sample(list(values), self.random.randint(1, max(1, len(values) - 1))))

    def look(self, depth=1):
        kind = self.random.random()
        if depth and kind < 0.25:
            return ~self.look(depth - 1)
        if depth and kind < 0.5:
            one, other = self.look(depth - 1), self.look(depth - 1)
            return self.pick([one & other, one | other, one - other, one ^ other])
        return self.simple()

    def change(self, new=None):
        change = {}
        for name in self.columns.names():
            values = self.columns.told_values(name)
            sources = [("value", self.word(name))] * 2
            sources += [("column", other) for other in self.columns.names()
                        if self.columns.told_values(other) == values]
            if values is None and (self.new if new is None else new):
                sources += [("moment",), ("throw",)] * 2
            if self.chance(0.6):
                change[name] = self.pick(sources)
        return change

    def order(self):
        by = [self.pick(["", "-"]) + self.pick(self.told)] if self.told and self.chance(0.5) else []
        return by + ([self.pick(["number", "-number"])] if self.chance(0.35) else [])

    def trigger(self):
        return Trigger(self.look(), self.change(new=False))

    def triggers(self, most=2):
        return [self.trigger() for _ in range(self.random.randint(0, most))] if self.chance(0.5) else []

    def statement(self, *, most=2, guard=True, hows=HOWS):
        """A statement that takes at most so many first rows; all that are found, if most is 0."""
        kind, parts = self.random.random(), {"how": self.pick(hows)}
        if guard and self.chance(0.3):
            parts["when"] = (self.pick(["some", "none"]), self.look())
        if kind < 0.2:
            row = [self.word(name) if self.columns.told_values(name) or not self.new or self.chance(0.5)
                   else ("moment",) for name in self.columns.names()]
            return Put(self.columns, row, **parts)
        parts["must"] = self.chance(0.15)
        count = self.random.randint(1, most) if most and self.chance(0.6) else 0
        if count:
            parts["by"] = self.order()
        if kind < 0.4:
            return Drop(self.look(), most=count or None, **parts)
        changes = [self.change() for _ in range(count)]
        return Change(self.look(), changes if count else self.change(), **parts)

    def statements(self, length, *, firsts=2, guards=2, hows=HOWS):
        """Statements within the limits of the document for scripts."""
        made = []
        for _ in range(length):
            statement = self.statement(most=2 if firsts == 2 else min(firsts, 1), guard=guards > 0, hows=hows)
            firsts -= getattr(statement, "most", None) or 0
            guards -= statement.when is not None
            made.append(statement)
        return made

    def script(self, length, *, hows=HOWS, firsts=2, like=0.6):
        here = self.triggers()
        there = list(here) if self.chance(like) else self.triggers()
        return Script(self.columns, self.statements(length, hows=hows, firsts=firsts), here=here, there=there)

    def dealings(self, lengths, *, hows=HOWS):
        statements = self.statements(sum(lengths), firsts=1, guards=1, hows=hows)
        here = self.triggers(1)
        there = list(here) if self.chance(0.6) else self.triggers(1)
        dealings, first = [], 0
        for length in lengths:
            dealings.append(statements[first:first + length])
            first += length
        return Dealings(self.columns, dealings, here=here, there=there)


def small_maker(seed, **parts):
    """A maker for columns with few kinds of rows; looks name numbers for every third seed."""
    columns = small_columns()[seed % len(small_columns())]
    return Maker(seed, columns, numbers=seed % 3 == 0, **parts)


def large_maker(seed, **parts):
    """A maker for columns with as many kinds of rows as the document allows."""
    place = seed % len(large_columns())
    return Maker(seed, large_columns()[place], numbers=seed % 3 == 0, words=("w", "x") if place == 3 else ("w",), **parts)
