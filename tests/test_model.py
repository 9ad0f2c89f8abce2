"""[31] to [35]: stores against the model of the tests, by chance."""

import random
import unittest

from tests.made import small_maker
from tests.model import CopyModel, Failed, HomeModel
from toldthere.columns import Columns
from toldthere.errors import ToldError
from toldthere.looks import every
from toldthere.statements import Drop
from toldthere.stores import Copy, Home
from toldthere.tables import Table

FOREIGN = Drop(every(Columns([("zz", ["a"])])))


class Words:
    """New words by chance, now and then one that cannot be; always the same by a seed."""

    def __init__(self, seed, bad):
        self.random, self.bad, self.count, self.given = random.Random(seed), bad, 0, []

    def __call__(self):
        kind = self.random.random()
        if kind < self.bad:
            word = self.random.choice([None, 1, "", "Ab", "ninechars", "a", "p", []])
        elif kind < 2 * self.bad:
            word = "v" + self.random.choice("abc")
        else:
            self.count += 1
            word = "z" + "".join("abcdefghij"[int(digit)] for digit in str(self.count))
        self.given.append(word)
        return word


class Lying:
    """Orders of rows by chance, now and then what is none."""

    def __init__(self, seed, bad):
        self.random, self.bad, self.passed = random.Random(seed), bad, []

    def __call__(self, numbers):
        self.passed.append(list(numbers))
        order = list(numbers)
        self.random.shuffle(order)
        if self.random.random() < self.bad:
            return self.random.choice([None, [], order + [1], order[1:], [True], "x", (order,)])
        numbers.append(3)
        return tuple(order) if self.random.random() < 0.3 else order


def outcome(function):
    try:
        return "returned", function()
    except Failed as error:
        return error.told
    except ToldError as error:
        return "raised", type(error).__name__, list(vars(error).values())


def attributes(entry):
    return [entry.dealing, entry.statement, entry.number, entry.moment, entry.throws, entry.results, entry.following]


class Pair:
    """A home and a copy, beside their models."""

    def __init__(self, test, seed):
        self.test, self.maker = test, small_maker(seed, words=("w", "va"))
        self.random = self.maker.random
        bad = self.random.choice([0, 0.05, 0.2])
        table = self.table()
        triggers, level = self.maker.triggers(), self.random.choice(["rows", "found", "looks"])
        self.words, self.lying = [None, None], [None, None]
        if self.random.random() < 0.9:
            self.words = [Words(seed, bad), Words(seed, bad)]
        if self.random.random() < 0.7:
            self.lying = [Lying(seed, bad), Lying(seed, bad)]
        self.home = Home(table, triggers=triggers, level=level, words=self.words[0], lying=self.lying[0])
        self.home_model = HomeModel(table, triggers, level, self.words[1], self.lying[1])
        self.make_copy(seed, table, triggers)
        self.dealings = []

    def make_copy(self, seed, table, triggers):
        bad = self.random.choice([0, 0, 0.1])
        self.copy_words = [Words(seed + 7, bad), Words(seed + 7, bad)]
        for words in self.copy_words:
            words.count = 500
        self.copy_lying = [Lying(seed + 9, bad), Lying(seed + 9, bad)] if self.random.random() < 0.7 else [None, None]
        triggers = triggers if self.random.random() < 0.6 else self.maker.triggers()
        rows = {number: row for number, row in table.rows().items() if self.random.random() < 0.8}
        table, place = Table(table.columns, rows, following=table.following), self.random.choice([0, 0, 0, 1, 2])
        self.copy = Copy(table, place=place, triggers=triggers, words=self.copy_words[0], lying=self.copy_lying[0])
        self.copy_model = CopyModel(table, place, triggers, self.copy_words[1], self.copy_lying[1])

    def table(self):
        columns, numbers = self.maker.columns, self.random.sample(range(1, 9), self.random.randint(0, 5))
        rows = {number: [self.random.choice(columns.told_values(name) or ("w", "p", "q", "va", "zzz"))
                         for name in columns.names()] for number in numbers}
        return Table(columns, rows, following=max(numbers, default=0) + self.random.randint(1, 2))

    def alike(self, function, model):
        one, other = outcome(function), outcome(model)
        self.test.assertEqual(one, other)
        return other[0] if other[0] == "returned" else other[1]

    def act(self):
        """Does something, and returns what came of it."""
        home, home_model, copy, copy_model = self.home, self.home_model, self.copy, self.copy_model
        kind, chosen = self.random.random(), self.random.choice(self.dealings[-4:]) if self.dealings else None
        statement = self.maker.statement() if self.random.random() < 0.97 else self.random.choice([None, 1, FOREIGN])
        if kind < 0.1:
            dealing, number = home.begin(), home_model.begin()
            self.test.assertEqual((dealing.number, dealing.state), (number, "open"))
            self.dealings.append(dealing)
        elif kind < 0.35 and chosen is not None:
            return self.alike(lambda: chosen.run(statement), lambda: home_model.run(chosen.number, statement))
        elif kind < 0.42 and chosen is not None:
            return self.alike(chosen.end, lambda: home_model.end(chosen.number))
        elif kind < 0.47 and chosen is not None:
            return self.alike(chosen.undo, lambda: home_model.undo(chosen.number))
        elif kind < 0.65:
            return self.alike(lambda: home.run(statement), lambda: home_model.run_alone(statement))
        elif kind < 0.8:
            return self.alike(lambda: copy.step(home), lambda: copy_model.step(home_model))
        elif kind < 0.85:
            return self.alike(lambda: copy.again(home), lambda: copy_model.again(home_model))
        elif kind < 0.92:
            upto = self.random.choice([None, None, copy.place + 2, 0, -1, 100])
            return self.alike(lambda: copy.follow(home, upto=upto), lambda: copy_model.follow(home_model, upto))
        elif kind < 0.96:
            copy.skip()
            copy_model.skip()
        return "done"

    def compare(self):
        test, home, home_model, copy, copy_model = self.test, self.home, self.home_model, self.copy, self.copy_model
        test.assertEqual((home.table.rows(), home.table.following, home.following),
                         (home_model.rows, home_model.following, home_model.following))
        test.assertEqual(home.open_dealings(), sorted(home_model.open))
        for dealing in self.dealings:
            test.assertEqual((dealing.state, dealing.taken()),
                             (home_model.state(dealing.number), home_model.taken(dealing.number)))
        entries = [home_model.entry(place) for place in range(len(home_model.log))]
        test.assertEqual([attributes(entry) for entry in home.entries()], entries)
        test.assertEqual([list(entry.results or ()) for entry in home.entries()],
                         [list(entry[5] or ()) for entry in entries])
        test.assertEqual((copy.place, copy.halted, copy.following, copy.table.rows(), copy.behind(home)),
                         (copy_model.place, copy_model.halted, copy_model.following, copy_model.rows,
                          copy_model.behind(home_model)))
        for one, other in (self.words, self.copy_words):
            test.assertEqual(one and one.given, other and other.given)
        for one, other in (self.lying, self.copy_lying):
            test.assertEqual(one and one.passed, other and other.passed)


class ModelTest(unittest.TestCase):
    def test_by_chance(self):
        counts = {}
        for seed in range(300):
            pair = Pair(self, seed)
            with self.subTest(seed=seed):
                for _ in range(40):
                    came = pair.act()
                    counts[came] = counts.get(came, 0) + 1
                    pair.compare()
        for name in ("returned", "Closed", "BadStatement", "BadOrder", "Barred", "Refused", "NoWords", "BadWord",
                     "Halted", "NoEntry"):
            self.assertGreater(counts.get(name, 0), 5, name)
