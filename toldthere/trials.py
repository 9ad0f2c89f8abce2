"""Trials: what a statement does to the rows of a store, ahead of its new words and behind them."""

from toldthere.errors import BadOrder, BadWord, NoWords
from toldthere.kinds import is_word
from toldthere.locks import Mark, has_to_wait
from toldthere.runs import (NEW_MOMENT, asks_how_rows_lie, has_source, is_lying, is_run, put_row, results,
                            taken, thrown)


class Source:
    """Where the new words of a store come from: a function, or None."""

    def __init__(self, words):
        self._words = words
        self._given = {}

    def next_word(self, rows):
        """A word that stands in none of the rows, and has not been given before."""
        words = self._words
        if words is None:
            raise NoWords()
        word = words()
        if not is_word(word) or word in self._given or any([word in row for row in rows.values()]):
            raise BadWord(word)
        self._given[word] = True
        return word


class Trial:
    """A statement on the rows of a store; nothing is changed by it."""

    def __init__(self, statement, rows, triggers, lying, number):
        self.statement = statement
        self.before = rows
        # The number that a Put draws, or is told.
        self.number = number
        self.runs = is_run(statement, rows)
        self.chosen = self._choose(lying)
        self.is_refused = statement.must and self.runs and len(self.chosen) == 0
        self.moment = None
        self.throws = {}
        self._triggers = triggers
        # The looks that the statement uses, and what they are known to find.
        self._looks = [] if statement.when is None else [statement.when[1]]
        if self.runs and statement.kind != "put":
            self._looks.append(statement.look)
        self._found = {}
        # From the numbers that are taken or put to what becomes of the rows, with signs instead of new words.
        self.results = self._results(NEW_MOMENT)

    def fill(self, source, moment=None, throws=None):
        """Takes the words that are told, and new ones for all others, and puts them into the results."""
        known = {} if throws is None else throws
        if has_source(self.statement, "moment"):
            self.moment = source.next_word(self.before) if moment is None else moment
        for number in thrown(self.statement, self.chosen):
            self.throws[number] = known[number] if number in known else source.next_word(self.before)
        self.results = self._results(self.moment)

    def waits_for(self, level, other):
        """Whether the statement would have to wait for the dealing of another trial."""
        numbers = {number: True for number in [*self.results, *other.results]}
        return any([has_to_wait(level, self._mark(number), other._mark(number)) for number in numbers])

    def _choose(self, lying):
        if not self.runs:
            return []
        if self.statement.kind == "put":
            return [self.number]
        numbers = list(self.before)
        if asks_how_rows_lie(self.statement) and lying is not None:
            numbers = lying(list(self.before))
            if not is_lying(numbers, self.before):
                raise BadOrder(numbers)
        return taken(self.statement, self.before, list(numbers))

    def _results(self, moment):
        if self.statement.kind != "put":
            return results(self.statement, self.before, self.chosen, self._triggers, moment, self.throws)
        return {number: put_row(self.statement, number, self._triggers, moment) for number in self.chosen}

    def _mark(self, number):
        """What the statement has to do with the row of a number."""
        def finds(row):
            return self._finds(row, number)

        row = self.before.get(number)
        return Mark(number in self.results, finds(row), row, self.results.get(number), finds)

    def _finds(self, row, number):
        """Whether a look that the statement uses finds a row with a number."""
        if (row, number) not in self._found:
            self._found[row, number] = row is not None and any([look(row, number) for look in self._looks])
        return self._found[row, number]
