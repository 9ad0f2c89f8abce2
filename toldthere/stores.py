"""Stores: a home that runs statements and writes them down, and copies that run them again."""

from toldthere.errors import (BadLevel, BadStatement, BadTrigger, Barred, Busy, Closed, Halted, NoEntry, Refused)
from toldthere.kinds import is_number
from toldthere.locks import LEVELS
from toldthere.runs import changed_rows
from toldthere.scripts import are_triggers, is_statement
from toldthere.tables import Table
from toldthere.trials import Source, Trial

OPEN = "open"
ENDED = "ended"
UNDONE = "undone"


class Home:
    """A store that runs statements, as parts of dealings, and has a log of them."""

    def __init__(self, table, *, triggers=(), level="rows", words=None, lying=None):
        if not isinstance(level, str) or level not in LEVELS:
            raise BadLevel(level)
        if not are_triggers(table.columns, triggers):
            raise BadTrigger("triggers")
        self.columns = table.columns
        self.level = level
        self.following = table.following
        self._table = table
        self._triggers = tuple(triggers)
        self._source = Source(words)
        self._lying = lying
        # How many dealings were made, and those that are open, by their ascending numbers.
        self._count = 0
        self._open = {}
        # For each entry the number of its dealing, its trial, and the following number behind it.
        self._log = []

    @property
    def table(self):
        """The present table."""
        return self._table

    def triggers(self):
        """The list of the triggers."""
        return list(self._triggers)

    def set_triggers(self, triggers):
        """Sets the triggers, from now on."""
        if self.open_dealings():
            raise Busy()
        if not are_triggers(self.columns, triggers):
            raise BadTrigger("triggers")
        self._triggers = tuple(triggers)

    def begin(self):
        """A new dealing, which is open at once."""
        dealing = Dealing(self, self._count)
        self._open[dealing.number] = dealing
        self._count += 1
        return dealing

    def run(self, statement):
        """Runs a statement as a dealing of its own, and returns the numbers that it takes or puts."""
        dealing = Dealing(self, self._count)
        numbers = dealing.run(statement)
        self._count += 1
        dealing.end()
        return numbers

    def open_dealings(self):
        """The ascending list of the numbers of the open dealings."""
        return list(self._open)

    def entries(self):
        """The list of the entries of the log."""
        return [self[place] for place in range(len(self._log))]

    def __len__(self):
        return len(self._log)

    def __getitem__(self, place):
        if not is_number(place) or not 0 <= place < len(self._log):
            raise NoEntry(place)
        dealing, trial, following = self._log[place]
        return Entry(dealing, trial, following)

    def __iter__(self):
        # Without this, Python would ask for the entries 0, 1, 2 and so on.
        raise TypeError("a log is not iterated over: take its entries()")

    def tried(self, statement, number):
        """What a statement of the dealing with a number would do now; raises the error if it has to wait."""
        trial = Trial(statement, self._table.rows(), self._triggers, self._lying, self.following)
        for other, dealing in self._open.items():
            if other != number and dealing.bars(trial):
                raise Barred(other)
        return trial

    def fill(self, trial):
        """Gives a trial its new words, and changes the table by it."""
        trial.fill(self._source)
        self.take(trial.results, self.following + 1 if trial.statement.kind == "put" else self.following)

    def take(self, left, following):
        """Takes over what has become of rows."""
        self._table = Table(self.columns, changed_rows(self._table.rows(), left), following=following)
        self.following = following

    def close(self, number, done):
        """Counts a dealing no longer among the open ones, and puts its statements behind the log."""
        self._open = {other: dealing for other, dealing in self._open.items() if other != number}
        for trial, following in done:
            self._log.append((number, trial, following))


class Dealing:
    """Statements that home runs one behind another, until they are ended or undone; made by home alone."""

    def __init__(self, home, number):
        self.number = number
        self.state = OPEN
        self._home = home
        # Pairs of a trial and of the following number behind it.
        self._done = []
        # From the numbers of the rows that were taken or put to the rows, or None, as they were ahead of this.
        self._originals = {}

    def run(self, statement):
        """Runs a statement, and returns the numbers that it takes or puts."""
        self._check_open()
        home = self._home
        if not is_statement(home.columns, statement):
            raise BadStatement("statement")
        trial = home.tried(statement, self.number)
        if trial.is_refused:
            self.undo()
            raise Refused()
        home.fill(trial)
        for number in trial.results:
            self._originals.setdefault(number, trial.before.get(number))
        self._done.append((trial, home.following))
        return list(trial.chosen)

    def taken(self):
        """The ascending list of the numbers of all rows that were taken or put."""
        return sorted(self._originals, key=int)

    def end(self):
        """Ends the dealing: its statements come into the log."""
        self._check_open()
        self.state = ENDED
        self._home.close(self.number, self._done)

    def undo(self):
        """Undoes the dealing: its rows are again as they were."""
        self._check_open()
        self.state = UNDONE
        self._home.take(self._originals, self._home.following)
        self._home.close(self.number, [])

    def bars(self, trial):
        """Whether a statement of another dealing would have to wait for this one."""
        return any([trial.waits_for(self._home.level, done) for done, _ in self._done])

    def _check_open(self):
        if self.state != OPEN:
            raise Closed()


class Entry:
    """What the log holds of a statement; made by home alone, and anew each time, so that it may be changed."""

    def __init__(self, dealing, trial, following):
        self.dealing = dealing
        self.statement = trial.statement
        values, rows = trial.statement.how == "values", trial.statement.how == "rows"
        self.number = trial.number if values and trial.statement.kind == "put" else None
        self.moment = trial.moment if values else None
        self.throws = dict(trial.throws) if values else None
        self.results = dict(trial.results) if rows else None
        self.following = following if rows else None

    def __eq__(self, other):
        return isinstance(other, Entry) and self._parts() == other._parts()

    def _parts(self):
        return (self.dealing, self.statement, self.number, self.moment, self.throws, self.results, self.following)


class Copy:
    """A store that runs the entries of a log."""

    def __init__(self, table, *, place=0, triggers=(), words=None, lying=None):
        if not are_triggers(table.columns, triggers):
            raise BadTrigger("triggers")
        self.columns = table.columns
        self.following = table.following
        self.place = place
        self.halted = None
        self._table = table
        self._triggers = tuple(triggers)
        self._source = Source(words)
        self._lying = lying

    @property
    def table(self):
        """The present table."""
        return self._table

    def step(self, home):
        """Runs the entry at its place, and returns the numbers that it takes, puts or is told."""
        self._check_going()
        entry = home[self.place]
        if entry.statement.columns != self.columns:
            raise BadStatement("statement")
        if entry.statement.how == "rows":
            self._take(entry.results, entry.following)
            return list(entry.results)
        number = self.following if entry.number is None else entry.number
        trial = Trial(entry.statement, self._table.rows(), self._triggers, self._lying, number)
        if trial.is_refused:
            self.halted = self.place
            raise Halted(self.place)
        trial.fill(self._source, entry.moment, entry.throws)
        self._take(trial.results, number + 1 if entry.statement.kind == "put" else 0)
        return list(trial.chosen)

    def follow(self, home, *, upto=None):
        """Steps to the end of the log, or to a place ahead of it, and returns how many steps it made."""
        last = len(home) if upto is None or upto > len(home) else upto
        steps = 0
        while self.place < last:
            self.step(home)
            steps += 1
        return steps

    def again(self, home):
        """Goes back by one entry and runs it once more."""
        self._check_going()
        if self.place == 0:
            raise NoEntry(-1)
        self.place -= 1
        return self.step(home)

    def skip(self):
        """Passes over the entry at its place, also one at which the copy has halted."""
        self.place += 1
        self.halted = None

    def behind(self, home):
        """How many entries stand behind its place, its own place included."""
        return max(0, len(home) - self.place)

    def _check_going(self):
        if self.halted is not None:
            raise Halted(self.halted)

    def _take(self, left, following):
        """Takes over what has become of rows; the following number is then at least the given one."""
        following = following if following > self.following else self.following
        self._table = Table(self.columns, changed_rows(self._table.rows(), left), following=following)
        self.following = following
        self.place += 1
