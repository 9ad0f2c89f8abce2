"""A home and copies by the words of section 10 of the document, for comparison with those of the package.

What a call returns is ("returned", value) or ("raised", name of the error, its attributes). An order in which rows
lie and new words come from functions, as in the package.
"""

from tests import oracle
from toldthere.statements import Change, Drop, Put


class Failed(Exception):
    def __init__(self, name, *attributes):
        super().__init__(name)
        self.told = ("raised", name, list(attributes))


def is_statement(thing, columns):
    return isinstance(thing, (Put, Drop, Change)) and thing.columns == columns


def is_word(thing):
    return (isinstance(thing, str) and 1 <= len(thing) <= 8
            and all(letter in "abcdefghijklmnopqrstuvwxyz" for letter in thing))


class Store:
    def __init__(self, table, triggers, words, lying):
        self.columns, self.rows, self.following = table.columns, table.rows(), table.following
        self.triggers, self.words, self.lying, self.given = list(triggers), words, lying, []

    def order(self, statement):
        """The numbers of all rows as they lie for a statement; asks lying if the document says so."""
        numbers = sorted(self.rows)
        if statement.kind == "put" or statement.most is None or statement.by[-1:] in (("number",), ("-number",)):
            return numbers
        if self.lying is None:
            return numbers
        told = self.lying(list(numbers))
        fits = (isinstance(told, (list, tuple))
                and all(isinstance(number, int) and not isinstance(number, bool) for number in told)
                and sorted(told) == numbers)
        if not fits:
            raise Failed("BadOrder", told)
        return list(told)

    def new_word(self):
        if self.words is None:
            raise Failed("NoWords")
        word = self.words()
        if not is_word(word) or word in self.given or any(word in row for row in self.rows.values()):
            raise Failed("BadWord", word)
        self.given.append(word)
        return word

    def choose(self, statement, order):
        """The numbers that a Drop or Change takes if its rows lie in an order."""
        numbers = [number for number in order if statement.look(self.rows[number], number)]
        if statement.most is None:
            return sorted(numbers)
        taken = []
        while numbers and len(taken) < statement.most:
            for number in numbers:
                pairs = [(other, self.rows[other]) for other in numbers]
                if not any(oracle.comes_earlier(self.columns, statement.by, pair, (number, self.rows[number]))
                           for pair in pairs):
                    taken.append(number)
                    numbers.remove(number)
                    break
        return taken


class Doing:
    """What a statement of a dealing did."""


class HomeModel(Store):
    def __init__(self, table, triggers, level, words, lying):
        super().__init__(table, triggers, words, lying)
        self.level, self.count, self.open, self.ended, self.log = level, 0, {}, {}, []

    def begin(self):
        self.open[self.count] = []
        self.count += 1
        return self.count - 1

    def state(self, number):
        return "open" if number in self.open else self.ended[number][0]

    def taken(self, number):
        doings = self.open[number] if number in self.open else self.ended[number][1]
        return sorted({row for doing in doings for row in doing.left})

    def end(self, number):
        if number not in self.open:
            raise Failed("Closed")
        doings = self.open.pop(number)
        self.ended[number] = ("ended", doings)
        self.log += [(number, doing) for doing in doings]

    def undo(self, number):
        if number not in self.open:
            raise Failed("Closed")
        doings = self.open.pop(number)
        self.ended[number] = ("undone", doings)
        for doing in doings[::-1]:
            self.rows = oracle.with_rows(self.rows, {row: doing.before.get(row) for row in doing.left})

    def run_alone(self, statement):
        number = self.begin()
        try:
            taken = self.run(number, statement)
        except Failed:
            self.open.pop(number, None)
            self.ended.pop(number, None)
            self.count -= 1
            raise
        self.end(number)
        return taken

    def run(self, number, statement):
        if number not in self.open:
            raise Failed("Closed")
        if not is_statement(statement, self.columns):
            raise Failed("BadStatement", "statement")
        doing = Doing()
        doing.statement, doing.before = statement, dict(self.rows)
        doing.ran = oracle.is_run(statement, self.rows)
        doing.looks = [] if statement.when is None else [statement.when[1]]
        if doing.ran and statement.kind != "put":
            doing.looks.append(statement.look)
        doing.found = {row for look in doing.looks for row in oracle.found(look, self.rows)}
        taken = []
        if doing.ran:
            taken = [self.following] if statement.kind == "put" else self.choose(statement, self.order(statement))
        doing.left = self.left(statement, taken, "*m", {row: f"*t{row}" for row in taken})
        for other in sorted(self.open):
            if other != number and any(self.waits(doing, done) for done in self.open[other]):
                raise Failed("Barred", other)
        if statement.must and doing.ran and not taken:
            self.undo(number)
            raise Failed("Refused")
        doing.moment = self.new_word() if oracle.has_moment(statement) else None
        doing.throws = {row: self.new_word() for row in oracle.throws_needed(statement, taken)}
        doing.left = self.left(statement, taken, doing.moment, doing.throws)
        doing.drawn = self.following if statement.kind == "put" else None
        self.rows = oracle.with_rows(self.rows, doing.left)
        self.following += 1 if statement.kind == "put" else 0
        doing.following = self.following
        self.open[number].append(doing)
        return taken

    def left(self, statement, taken, moment, throws):
        if statement.kind == "put":
            return {row: oracle.put_row(statement, row, self.triggers, moment) for row in taken}
        return oracle.apply(statement, self.rows, taken, self.triggers, moment, throws)

    def waits(self, mine, other):
        """The table of [28]."""
        both = set(mine.left) & set(other.left)
        if both:
            return True
        if self.level == "rows":
            return False
        if mine.found & set(other.left) or set(mine.left) & other.found:
            return True
        if self.level == "found":
            return False

        def finds(looks, rows, number):
            return rows.get(number) is not None and any(look(rows[number], number) for look in looks)

        return (any(finds(mine.looks, rows, number) for number in other.left for rows in (other.before, other.left))
                or any(finds(other.looks, rows, number) for number in mine.left for rows in (mine.before, mine.left)))

    def entry(self, place):
        """What the attributes of an entry must be."""
        number, doing = self.log[place]
        values, rows = doing.statement.how == "values", doing.statement.how == "rows"
        return [number, doing.statement, doing.drawn if values else None, doing.moment if values else None,
                doing.throws if values else None, doing.left if rows else None, doing.following if rows else None]


class CopyModel(Store):
    def __init__(self, table, place, triggers, words, lying):
        super().__init__(table, triggers, words, lying)
        self.place, self.halted = place, None

    def step(self, home):
        if self.halted is not None:
            raise Failed("Halted", self.halted)
        if not 0 <= self.place < len(home.log):
            raise Failed("NoEntry", self.place)
        doing = home.log[self.place][1]
        statement = doing.statement
        if statement.columns != self.columns:
            raise Failed("BadStatement", "statement")
        if statement.how == "rows":
            self.rows = oracle.with_rows(self.rows, doing.left)
            self.following = max(self.following, doing.following)
            self.place += 1
            return list(doing.left)
        values = statement.how == "values"
        number = doing.drawn if values else self.following
        taken = []
        if oracle.is_run(statement, self.rows):
            taken = [number] if statement.kind == "put" else self.choose(statement, self.order(statement))
            if statement.must and not taken:
                self.halted = self.place
                raise Failed("Halted", self.place)
        moment = None
        if oracle.has_moment(statement):
            moment = doing.moment if values else self.new_word()
        throws = {}
        for row in oracle.throws_needed(statement, taken):
            throws[row] = doing.throws[row] if values and row in doing.throws else self.new_word()
        if statement.kind == "put":
            left = {row: oracle.put_row(statement, row, self.triggers, moment) for row in taken}
            self.following = max(self.following, number + 1)
        else:
            left = oracle.apply(statement, self.rows, taken, self.triggers, moment, throws)
        self.rows = oracle.with_rows(self.rows, left)
        self.place += 1
        return taken

    def follow(self, home, upto):
        steps = 0
        while self.place < (len(home.log) if upto is None else min(upto, len(home.log))):
            self.step(home)
            steps += 1
        return steps

    def again(self, home):
        if self.halted is not None:
            raise Failed("Halted", self.halted)
        if self.place == 0:
            raise Failed("NoEntry", -1)
        self.place -= 1
        return self.step(home)

    def skip(self):
        self.place += 1
        self.halted = None

    def behind(self, home):
        return max(0, len(home.log) - self.place)
