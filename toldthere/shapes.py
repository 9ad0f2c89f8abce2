"""Shapes: rows as far as statements can tell them apart, with signs instead of words that nothing names."""

from toldthere.looks import NUMBERS, OTHER_WORDS
from toldthere.runs import changes_of

# The shape of no row at all.
ABSENT = 0
# The signs, which are integers, of the words that the two free columns of a row hold at the beginning.
FIRST_SIGNS = (0, 1)


def named_words(columns, statements, triggers):
    """The words that statements and triggers name for free columns, in the order of the alphabet."""
    named = {}
    free = [name for name in columns.names() if columns.told_values(name) is None]
    for statement in statements:
        if statement.kind == "put":
            _add_put(columns, statement.row, named)
        else:
            _add_look(columns, statement.look, named)
        if statement.when is not None:
            _add_look(columns, statement.when[1], named)
        for change in changes_of(statement):
            _add_change(free, change, named)
    for trigger in triggers:
        _add_look(columns, trigger.look, named)
        _add_change(free, trigger.change, named)
    return sorted(list(named), key=str)


def _add_put(columns, row, named):
    for name, thing in zip(columns.names(), row):
        if columns.told_values(name) is None and isinstance(thing, str):
            named[thing] = True


def _add_look(columns, look, named):
    told = [columns.told_values(name) for name in columns.names()]
    for step in look.steps:
        # The place behind those of the columns is that of the number.
        if step[0] == "in" and step[1] < len(told) and told[step[1]] is None:
            for word in step[2]:
                named[word] = True


def _add_change(free, change, named):
    for name, source in change.items():
        if name in free and source[0] == "value":
            named[source[1]] = True


class Shapes:
    """All shapes that have come up, each with a number of its own; the shape of no row has the number 0."""

    def __init__(self, columns, named):
        self.columns = columns
        self.named = list(named)
        self._told = [columns.told_values(name) for name in columns.names()]
        self._axes = [(*named, *OTHER_WORDS) if values is None else values for values in self._told]
        self._places = [{thing: place for place, thing in enumerate(axis)} for axis in self._axes]
        self._cells = [None]
        self._points = [None]
        self._numbers = {}

    def number_of(self, cells):
        """The number of a shape: a list with a word or a sign for each column."""
        cells = tuple(cells)
        if cells not in self._numbers:
            self._numbers[cells] = len(self._cells)
            self._cells.append(cells)
            self._points.append(self._point(cells))
        return self._numbers[cells]

    def cells(self, shape):
        """The words and signs of a shape."""
        return self._cells[shape]

    def point(self, shape):
        """The place of a shape, from 0 on, among the points to which looks are put."""
        return self._points[shape]

    def findings(self, look):
        """For all points, and for each of them for the numbers 1 to 5, the digit 1 if a look finds it, else 0."""
        axes = [*self._axes, NUMBERS]
        count = 1
        for axis in axes:
            count = count * len(axis)
        return f"{look.found(axes):b}".zfill(count)

    def kinds(self):
        """The shapes of all rows that a table can have at the beginning."""
        rows = [()]
        for values in self._told:
            rows = [(*row, thing) for row in rows for thing in self._things_behind(row, values)]
        return [self.number_of(row) for row in rows]

    def _things_behind(self, row, values):
        """What can stand in the next column: a second sign stands only behind the first one."""
        if values is not None:
            return values
        if FIRST_SIGNS[0] in row:
            return (*self.named, *FIRST_SIGNS)
        # With one sign the other free column is named, or both are alike; so a sign that stands alone is the first.
        return (*self.named, FIRST_SIGNS[0])

    def _point(self, cells):
        """Signs count as the words that stand for all others: like signs as one of them, unlike signs as both."""
        signs = []
        point = 0
        for places, axis, cell in zip(self._places, self._axes, cells):
            thing = cell
            if not isinstance(cell, str):
                if cell not in signs:
                    signs.append(cell)
                thing = OTHER_WORDS[signs.index(cell)]
            point = point * len(axis) + places[thing]
        return point
