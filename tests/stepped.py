"""Runs that were told, carried out in the stores of the package: [18] to [20] and [29] with [31] to [35]."""

from toldthere.errors import Halted
from toldthere.stores import Copy, Home


class Teller:
    """Gives a store the words and the order of the entry that is its turn."""

    def __init__(self):
        self.words, self.numbers = [], []

    def turn(self, entry, told=None):
        """Takes over an entry; told is that of home, if the statement is told with its values."""
        self.words, self.numbers = [], []
        if entry is None:
            return
        numbers, moment, throws = entry
        self.numbers = list(numbers)
        if moment is not None and told is None:
            self.words.append(moment)
        self.words += [throws[number] for number in numbers
                       if number in throws and (told is None or number not in told[2])]

    def word(self):
        return self.words.pop(0)

    def lying(self, numbers):
        return self.numbers + [number for number in numbers if number not in self.numbers]


def carry_out(parting, statements, here, there, weaving, level="rows"):
    """Lets home run what a parting tells, and checks that it ends so; returns all that follow needs.

    weaving is a list of pairs of a dealing and of the index of a statement, or None for the end of the dealing.
    """
    teller, told = Teller(), {}
    home = Home(parting.start, triggers=here, level=level, words=teller.word, lying=teller.lying)
    dealings, entries = {}, iter(parting.home)
    for number, index in weaving:
        if number not in dealings:
            dealings[number] = home.begin()
        if index is None:
            dealings[number].end()
            continue
        told[index] = next(entries)
        teller.turn(told[index])
        assert dealings[number].run(statements[index]) == told[index][0]
        assert teller.words == []
    assert next(entries, None) is None
    assert home.table == parting.here
    copy = Copy(parting.start, triggers=there, words=teller.word, lying=teller.lying)
    return home, copy, teller, told


def follow(parting, statements, home, copy, teller, told, places, telling):
    """Lets the copy run the entries at these places of the log, which are those of these statements, as is told."""
    halted = None
    assert len(parting.copy) <= len(places)
    for entry, place, index in zip(parting.copy, places, telling):
        while copy.place < place:
            copy.skip()
        values = statements[index].how == "values"
        teller.turn(entry, told[index] if values else None)
        try:
            numbers = copy.again(home) if copy.place > place else copy.step(home)
        except Halted:
            halted = index
            break
        assert numbers == (list(home[place].results) if entry is None else entry[0])
        assert teller.words == []
    assert halted is not None or len(parting.copy) == len(places)
    assert halted == parting.halted
    assert copy.table == parting.there and (copy.halted is None) == (halted is None)


def happens(plan, parting, order=None):
    """Checks that a parting happens in the stores; order tells the indexes of what the copy is told."""
    order = list(range(len(plan))) if order is None else order
    weaving = [(0, index) for index in range(len(plan))] + [(0, None)] if len(plan) else []
    stores = carry_out(parting, plan.statements(), plan.here, plan.there, weaving)
    follow(parting, plan.statements(), *stores, order, order)


def happens_woven(dealings, woven, level):
    """Checks that a woven parting happens in the stores, and that no statement has to wait."""
    firsts, statements = [], []
    for dealing in dealings.statements():
        firsts.append(len(statements))
        statements += dealing
    weaving = [(d, None if k is None else firsts[d] + k) for d, k in woven.weaving]
    telling = [firsts[d] + k for d, end in woven.weaving if end is None
               for k in range(len(dealings.statements()[d]))]
    stores = carry_out(woven.parting, statements, dealings.here, dealings.there, weaving, level)
    follow(woven.parting, statements, *stores, list(range(len(telling))), telling)
