"""Partings: whether the copy stays as home for all tables, or a smallest table by which they part."""

from toldthere.courses import Course, Kit
from toldthere.errors import NoStatement
from toldthere.hopes import HALT, PART, WIDE, Goal
from toldthere.kinds import is_number
from toldthere.proofs import proofs_of
from toldthere.searches import Search
from toldthere.tellings import told_course


class Parting:
    """A run of home and one of the copy from the same table; section 7 of the document tells what it holds."""

    def __init__(self, start, here, there, halted, home, copy):
        self.start = start
        self.here = here
        self.there = there
        self.halted = halted
        self.home = _copied_entries(home)
        self.copy = _copied_entries(copy)


def steady(plan):
    """Whether home and copy are alike at the end, whatever the table, the orders and the words are."""
    return proofs_of(plan).is_steady(0, len(plan))


def parting(plan):
    """A parting from a table with as few rows as possible, None if home and copy never part."""
    return parting_of(proofs_of(plan).find(0, len(plan), Goal(PART)))


def healed(plan):
    """For each statement whether home and copy are surely alike behind it."""
    proofs = proofs_of(plan)
    return [proofs.is_steady(0, behind) for behind in range(1, len(plan) + 1)]


def halts(plan):
    """A parting for each statement at which the copy can halt, from a table with as few rows as possible."""
    proofs = proofs_of(plan)
    found = [proofs.find(0, len(plan), Goal(HALT, index=index)) for index in range(len(plan)) if plan[index].must]
    return [parting_of(one) for one in found if one is not None]


def wide(plan, least):
    """A parting with at least so many unlike numbers, from as few rows as possible, None if there is none."""
    return parting_of(proofs_of(plan).find(0, len(plan), Goal(WIDE, least=least)))


def twice(plan, index):
    """What parting returns if the copy is told the statement with an index twice."""
    _check_index(plan, index)
    told = list(range(len(plan)))
    return _parting_told(plan, [*told[:index], index, *told[index:]])


def without(plan, index):
    """What parting returns if the copy is not told the statement with an index."""
    _check_index(plan, index)
    return _parting_told(plan, [other for other in range(len(plan)) if other != index])


def parting_of(found):
    """The parting that tells what a search has found, None if it has found nothing."""
    if found is None:
        return None
    start, home, copy, halted = told_course(found)
    return Parting(start, home.present(), copy.present(), halted, home.written, copy.written)


def _copied_entries(entries):
    """A new list of entries, each with a list and a dict of its own."""
    return [None if entry is None else _copied_entry(entry) for entry in entries]


def _copied_entry(entry):
    numbers, moment, throws = entry
    return list(numbers), moment, dict(throws)


def _check_index(plan, index):
    if not is_number(index) or not 0 <= index < len(plan):
        raise NoStatement(index)


def _parting_told(plan, told):
    """A smallest parting if the copy is told the statements with these indexes."""
    statements = plan.statements()
    kit = Kit(plan.columns, statements, plan.here, plan.there)
    search = Search(Goal(PART))
    search.add_all(Course(kit, statements, list(range(len(statements))), told))
    return parting_of(search.result())
