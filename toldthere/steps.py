"""Steps: one statement as home or the copy runs it, on shapes of rows."""

from toldthere.looks import NUMBERS
from toldthere.runs import change_at, changes_of, has_source
from toldthere.shapes import ABSENT

# To a look, all numbers beyond those that looks can name are one.
BEYOND = 5
# What a change takes from elsewhere than the row and the statement.
MOMENT = -1
THROW = -2


def clamped(number):
    """The number itself if looks can name it, else the one that stands for all others."""
    return number if number < BEYOND else BEYOND


class Signs:
    """The signs of the new words of a statement at one store."""

    def __init__(self, moment, throw, throw_of_home=None):
        self.moment = moment
        self.throw = throw
        # The throw of home, for a row that got one there, if the statement is told with its values.
        self.throw_of_home = throw if throw_of_home is None else throw_of_home


class Step:
    """A statement with the triggers of a store, compiled: what it finds of a shape, and what it makes of it."""

    def __init__(self, shapes, statement, triggers, signs):
        self.shapes = shapes
        self.statement = statement
        self.signs = signs
        self.must = statement.must
        self.most = None if statement.kind == "put" else statement.most
        self.puts = statement.kind == "put"
        self.drops = statement.kind == "drop"
        self.wants = None if statement.when is None else statement.when[0] == "some"
        self._guard = None if statement.when is None else shapes.findings(statement.when[1])
        self._look = None if self.puts else shapes.findings(statement.look)
        self._order_parts = _order_parts(statement)
        self.ranks = _product([len(values) for _, values in self._order_parts])
        self.order = _number_order(statement)
        self._changes = _compiled_changes(statement)
        self._triggers = [(shapes.findings(trigger.look), _compiled(trigger.columns, trigger.change))
                          for trigger in triggers]
        self._facts = {}
        self._left = {}

    def facts(self, shape, number):
        """Whether the guard's look finds a shape at a number, and its rank; -1 if the look does not find it."""
        key = shape * (BEYOND + 1) + number
        if key not in self._facts:
            self._facts[key] = self._facts_of(shape, number)
        return self._facts[key]

    def left(self, shape, number, place, told):
        """The shape that the row that is taken at a place leaves; told: whether home told it a throw."""
        key = (shape, number, place, told)
        if key not in self._left:
            self._left[key] = self._left_of(shape, number, place, told)
        return self._left[key]

    def put(self, number):
        """The shape that a Put leaves."""
        cells = [thing if isinstance(thing, str) else self.signs.moment for thing in self.statement.row]
        return self.shapes.number_of(self._triggered(cells, number))

    def throws_at(self, place):
        """Whether a row that is taken at a place gets a throw."""
        return not self.puts and not self.drops and ("throw",) in list(change_at(self.statement, place).values())

    def _facts_of(self, shape, number):
        if shape == ABSENT:
            return False, -1
        at = self.shapes.point(shape) * len(NUMBERS) + number - 1
        asked = self._guard is not None and self._guard[at] == "1"
        if self._look is None or self._look[at] == "0":
            return asked, -1
        cells = self.shapes.cells(shape)
        worth = 0
        for column, values in self._order_parts:
            worth = worth * len(values) + values.index(cells[column])
        return asked, worth

    def _left_of(self, shape, number, place, told):
        if self.drops:
            return ABSENT
        throw = self.signs.throw_of_home if told else self.signs.throw
        cells = self._changed(self.shapes.cells(shape), self._changes[place], throw)
        return self.shapes.number_of(self._triggered(cells, number))

    def _changed(self, cells, change, throw):
        """The cells behind a compiled change: pairs of a column and of a word, a column or a new word."""
        mixed = list(cells)
        for column, source in change:
            if isinstance(source, str):
                mixed[column] = source
            elif source == MOMENT:
                mixed[column] = self.signs.moment
            elif source == THROW:
                mixed[column] = throw
            else:
                mixed[column] = cells[source]
        return mixed

    def _triggered(self, cells, number):
        for findings, change in self._triggers:
            point = self.shapes.point(self.shapes.number_of(cells))
            if findings[point * len(NUMBERS) + number - 1] == "1":
                cells = self._changed(cells, change, None)
        return cells


def _compiled(columns, change):
    """A change as a list of pairs of the place of a column and of what it takes."""
    names = columns.names()
    pairs = []
    for name, source in change.items():
        if source[0] == "value":
            taken = source[1]
        elif source[0] == "column":
            taken = names.index(source[1])
        else:
            taken = MOMENT if source[0] == "moment" else THROW
        pairs.append((names.index(name), taken))
    return pairs


def _compiled_changes(statement):
    return [_compiled(statement.columns, change) for change in changes_of(statement)]


def _order_parts(statement):
    """Pairs of a column of the order and of its values, those that come earlier ahead."""
    if statement.kind == "put" or statement.most is None:
        return []
    parts = []
    names = statement.columns.names()
    for part in statement.by:
        name = part.removeprefix("-")
        if name != "number":
            values = statement.columns.told_values(name)
            parts.append((names.index(name), values[::-1] if part.startswith("-") else values))
    return parts


def _number_order(statement):
    """1 if rows that are level are taken by ascending numbers, -1 if by descending ones, 0 if as they lie."""
    if statement.kind == "put" or statement.most is None or not statement.by:
        return 0
    return {"number": 1, "-number": -1}.get(statement.by[-1], 0)


def _product(counts):
    product_of_all = 1
    for count in counts:
        product_of_all = product_of_all * count
    return product_of_all


def needs_telling(statement):
    """What a copy must be told of each row that home took: "rows", "throws" or nothing."""
    if statement.how == "rows":
        return "rows"
    if statement.how == "values" and has_source(statement, "throw"):
        return "throws"
    return ""
