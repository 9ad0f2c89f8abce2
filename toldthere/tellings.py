"""Tellings: what was found by shapes, told with numbers and words."""

from toldthere.kinds import LETTERS
from toldthere.runs import (changed_rows, has_source, is_run, put_row, results, taken, thrown)
from toldthere.shapes import ABSENT
from toldthere.tables import Table
from toldthere.zones import PLACE, SLOT


class Words:
    """Gives words that stand nowhere yet."""

    def __init__(self, columns, named):
        self._barred = {word: True for word in named}
        for name in columns.names():
            for word in columns.told_values(name) or ():
                self._barred[word] = True
        self._count = 0

    def next_word(self):
        """A word that has not been given before, and is none of the barred ones."""
        word = ""
        while word == "" or word in self._barred:
            word = _spelled(self._count)
            self._count += 1
        return word


class Teller:
    """A store that runs statements with rows lying as they must, and keeps what it is told of each."""

    def __init__(self, table, triggers, words):
        self.held = table.rows()
        self.following = table.following
        self.written = []
        self._columns = table.columns
        self._triggers = triggers
        self._words = words

    def present(self):
        """The present table."""
        return Table(self._columns, self.held, following=self.following)

    def run(self, statement, first_numbers, told=None, number=None):
        """Runs a statement whose first rows have these numbers where any can be taken; tells if it was refused.

        told is the entry of home if the statement is told with its values, number the number that a Put drew.
        """
        moment = None
        if has_source(statement, "moment"):
            moment = self._words.next_word() if told is None else told[1]
        runs = is_run(statement, self.held)
        if statement.kind == "put":
            self._put(statement, runs, moment, number)
            return False
        lying = [*first_numbers, *[other for other in self.held if other not in first_numbers]]
        numbers = taken(statement, self.held, lying) if runs else []
        throws = {}
        for row in thrown(statement, numbers):
            known = {} if told is None else told[2]
            throws[row] = known[row] if row in known else self._words.next_word()
        self.written.append((numbers, moment, throws))
        if runs and statement.must and len(numbers) == 0:
            return True
        left = results(statement, self.held, numbers, self._triggers, moment, throws)
        self.held = changed_rows(self.held, left)
        return False

    def take(self, numbers, home_rows, following):
        """Is told what became of rows at home."""
        self.held = changed_rows(self.held, {number: home_rows.get(number) for number in numbers})
        self.following = max(self.following, int(following))
        self.written.append(None)

    def _put(self, statement, runs, moment, number):
        if number is None:
            number = self.following
        if runs:
            self.held = changed_rows(self.held, {number: put_row(statement, number, self._triggers, moment)})
        self.following = max(self.following, int(number + 1))
        self.written.append(([number] if runs else [], moment, {}))


def _spelled(count):
    """The word with a number: a to z, aa to zz, and so on."""
    word = ""
    count += 1
    while count > 0:
        count -= 1
        word = LETTERS[count % len(LETTERS)] + word
        count //= len(LETTERS)
    return word


def start_of(found, words):
    """The table at the beginning, and for each row that was found its number."""
    kit = found.node.course.kit
    rows, numbers = {}, []
    free = kit.greatest + 1
    zones = found.node.zones
    following = len([zone for zone in zones if zone.role == SLOT]) + 1
    for zone, _, origin in found.path:
        number = zone.number
        if zone.role == PLACE:
            number = None
        elif zone.role != SLOT:
            number = free
            free += 1
            following = free
        numbers.append(number)
        if origin != ABSENT:
            rows[number] = _row_of(kit.shapes.cells(origin), words)
    places = [None if number is not None else following + zone.offset
              for number, (zone, _, _) in zip(numbers, found.path)]
    numbers = [place if number is None else number for number, place in zip(numbers, places)]
    return Table(kit.columns, rows, following=following), numbers


def _row_of(cells, words):
    """A row with new words for the signs of a shape."""
    known = {}
    row = []
    for cell in cells:
        if not isinstance(cell, str) and cell not in known:
            known[cell] = words.next_word()
        row.append(cell if isinstance(cell, str) else known[cell])
    return row


def told_course(found):
    """The table at the beginning, the stores of home and copy at the end, and where the copy halts.

    The entries of home stand in the order in which it runs its statements.
    """
    course = found.node.course
    words = Words(course.kit.columns, course.kit.shapes.named)
    start, numbers = start_of(found, words)
    home, copy = Teller(start, course.kit.here, words), Teller(start, course.kit.there, words)
    drawn, behind, halted = {}, {}, None
    for place, event in enumerate(course.events):
        statement = event.statement
        first = _first_numbers(found, numbers, place)
        if event.at_home:
            drawn[event.index] = home.following
            home.run(statement, first)
            behind[event.index] = (home.written[-1], home.held, home.following)
        elif halted is None and event.as_rows:
            (taken_there, _, _), rows, following = behind[event.index]
            copy.take(taken_there, rows, following)
        elif halted is None:
            values = statement.how == "values"
            told = behind[event.index][0] if values else None
            if copy.run(statement, first, told, drawn[event.index] if values else None):
                halted = event.index
    return start, home, copy, halted


def _first_numbers(found, numbers, place):
    """The numbers of the rows that the event at a place has to take first, in their order."""
    first = {}
    for digit, event, at in found.node.takes:
        if event == place:
            for number, (_, fate, _) in zip(numbers, found.path):
                if fate[3] & digit:
                    first[at] = number
    return [first[at] for at in sorted(first, key=int)]
