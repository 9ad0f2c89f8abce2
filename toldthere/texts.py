"""Texts: tables, scripts and dealings as lines."""

from toldthere.errors import BadText
from toldthere.linetexts import (columns_line, read_columns, read_number, read_statement, read_trigger, statement_line,
                                 trigger_line)
from toldthere.scripts import Script
from toldthere.tables import Table
from toldthere.weavings import MOST_DEALINGS, Dealings

# No number is greater, since it has forty digits at most.
GREATEST = 10 ** 40 - 1
# What the lines so far tell: the columns alone; rows; a whole table; triggers of home, of the copy; statements of a
# script; or that a dealing begins, or goes on.
COLUMNS = "columns"
ROWS = "rows"
TABLE = "table"
HERE = "here"
THERE = "there"
SCRIPT = "script"
DEALING = "dealing"
WOVEN = "woven"


def text(thing):
    """The text of a table, a script or dealings."""
    lines = [columns_line(thing.columns)]
    if isinstance(thing, Table):
        for number, row in thing.rows().items():
            lines.append(" ".join(["row", str(number), *row]))
        lines.append(f"following {thing.following}")
    else:
        lines.extend([trigger_line("here", trigger) for trigger in thing.here])
        lines.extend([trigger_line("there", trigger) for trigger in thing.there])
        if isinstance(thing, Script):
            lines.extend([statement_line(statement) for statement in thing.statements()])
        else:
            for statements in thing.statements():
                lines.extend(["dealing", *[statement_line(statement) for statement in statements]])
    return "".join([f"{line}\n" for line in lines])


def read(written):
    """The table, script or dealings that have a text."""
    lines = written.split("\n")
    # What stands behind the last line feed is no line.
    rest = lines.pop()
    reader = Reader()
    for place, line in enumerate(lines):
        if not reader.goes_on_with(line):
            raise BadText(place + 1)
    if rest != "" or not reader.is_whole():
        raise BadText(len(lines) + 1)
    return reader.thing()


class Reader:
    """Takes the lines of a text, one behind another."""

    def __init__(self):
        self._columns = None
        self._stage = ""
        self._rows = {}
        self._greatest = 0
        self._following = None
        self._triggers = {HERE: [], THERE: []}
        # The statements of a script, or those of each dealing.
        self._lists = [[]]

    def goes_on_with(self, line):
        """Takes a line, if some text goes on with it, and tells whether it does."""
        if self._columns is None:
            self._columns = read_columns(line)
            self._stage = COLUMNS
            return self._columns is not None
        word = line.partition(" ")[0]
        if word in ("row", "following"):
            return self._takes_row(line) if word == "row" else self._takes_following(line)
        if self._stage in (ROWS, TABLE):
            return False
        if word in (HERE, THERE):
            return self._takes_trigger(word, line)
        if line == "dealing":
            return self._takes_dealing()
        return self._takes_statement(line)

    def is_whole(self):
        """Whether the lines so far are a text."""
        return self._columns is not None and self._stage not in (ROWS, DEALING)

    def thing(self):
        """What has the text."""
        if self._stage == TABLE:
            return Table(self._columns, self._rows, following=self._following)
        here, there = self._triggers[HERE], self._triggers[THERE]
        if self._stage == WOVEN:
            return Dealings(self._columns, self._lists, here=here, there=there)
        return Script(self._columns, self._lists[0], here=here, there=there)

    def _takes_row(self, line):
        if self._stage not in (COLUMNS, ROWS):
            return False
        words = line.split(" ")
        number = read_number(words[1]) if len(words) > 1 else None
        # The following number is greater, and has forty digits at most, too.
        if number is None or not self._greatest < number < GREATEST or not self._columns.is_row(words[2:]):
            return False
        self._stage = ROWS
        self._greatest = number
        self._rows[number] = words[2:]
        return True

    def _takes_following(self, line):
        number = read_number(line.removeprefix("following "))
        if self._stage not in (COLUMNS, ROWS) or number is None or number <= self._greatest:
            return False
        self._stage = TABLE
        self._following = number
        return True

    def _takes_trigger(self, side, line):
        trigger = read_trigger(self._columns, side, line)
        if trigger is None or self._stage not in (COLUMNS, HERE, side):
            return False
        self._stage = side
        self._triggers[side].append(trigger)
        return True

    def _takes_dealing(self):
        if self._stage in (SCRIPT, DEALING) or self._stage == WOVEN and len(self._lists) == MOST_DEALINGS:
            return False
        if self._stage == WOVEN:
            self._lists.append([])
        self._stage = DEALING
        return True

    def _takes_statement(self, line):
        statement = read_statement(self._columns, line)
        if statement is None:
            return False
        self._stage = WOVEN if self._stage in (DEALING, WOVEN) else SCRIPT
        self._lists[-1].append(statement)
        return True
