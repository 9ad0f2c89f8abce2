"""Endings: the tables with which home can end, and whether those of two scripts are the same for all tables."""

from toldthere.courses import Kit
from toldthere.errors import NotPlain, UnlikeColumns
from toldthere.inclusions import Inclusion
from toldthere.runs import has_source
from toldthere.shapes import ABSENT
from toldthere.steps import clamped
from toldthere.tables import Table


def endings(plan, table):
    """All tables with which home can end, each once."""
    _check_plain(plan)
    kit = Kit(plan.columns, plan.statements(), plan.here)
    signs = {}
    state = [(number, kit.shapes.number_of(_signed(kit, row, signs))) for number, row in table.rows().items()]
    states = {tuple(state): True}
    following = table.following
    for index, statement in enumerate(plan.statements()):
        step = kit.home_step(index, statement)
        states = {left: True for state in states for left in _states_behind(step, state, following)}
        following += 1 if step.puts else 0
    words = {sign: word for word, sign in signs.items()}
    return [_table(kit, state, words, following) for state in states]


def alike(first, second):
    """Whether home can end with the same tables by two scripts, for every table at the beginning."""
    return unlike(first, second) is None


def unlike(first, second):
    """A smallest table, an ending that just one of two scripts can have, and whether it is the first; or None."""
    if first.columns != second.columns:
        raise UnlikeColumns()
    _check_plain(first)
    _check_plain(second)
    statements = [*first.statements(), *second.statements()]
    kit = Kit(first.columns, statements, first.here, second.here)
    other_kit = kit.beside(second.here)
    inclusion = Inclusion()
    inclusion.add(kit, first.statements(), other_kit, second.statements(), True)
    inclusion.add(other_kit, second.statements(), kit.beside(first.here), first.statements(), False)
    return inclusion.result()


def _check_plain(plan):
    for index, statement in enumerate(plan.statements()):
        if has_source(statement, "moment") or has_source(statement, "throw"):
            raise NotPlain(index)


def _signed(kit, row, signs):
    """A row with a sign for each word of a free column that nothing names; like words have like signs."""
    cells = []
    for name, word in zip(kit.columns.names(), row):
        if kit.columns.told_values(name) is None and word not in kit.shapes.named:
            cells.append(signs.setdefault(word, len(signs)))
        else:
            cells.append(word)
    return cells


def _states_behind(step, state, following):
    """All states, tuples of pairs of a number and of a shape, behind a step; none if it is refused."""
    facts = {number: step.facts(shape, clamped(number)) for number, shape in state}
    some = any([asked for asked, _ in facts.values()])
    if step.wants is not None and some != step.wants:
        return [state]
    if step.puts:
        return [(*state, (following, step.put(clamped(following))))]
    listed = _takings(step, {number: rank for number, (_, rank) in facts.items() if rank >= 0})
    if step.must and listed == [[]]:
        return []
    return [_state_behind(step, state, numbers) for numbers in listed]


def _takings(step, ranks):
    """All lists of the numbers of the rows that a step can take, of those that are found, with their ranks."""
    if step.most is None:
        return [sorted(ranks, key=int)]
    lists = [[]]
    for _ in range(step.most):
        lists = [longer for taken in lists for longer in _longer(step, ranks, taken)]
    return lists


def _longer(step, ranks, taken):
    """The lists of one more number, of a row that can be taken behind others; the list itself if none is left."""
    left = [number for number in sorted(ranks, key=int) if number not in taken]
    if len(left) == 0:
        return [taken]
    least = min([int(ranks[number]) for number in left])
    level = [number for number in left if ranks[number] == least]
    if step.order > 0:
        level = level[:1]
    elif step.order < 0:
        level = level[-1:]
    return [[*taken, number] for number in level]


def _state_behind(step, state, numbers):
    places = {number: place for place, number in enumerate(numbers)}
    left = []
    for number, shape in state:
        if number in places:
            place = 0 if step.most is None else places[number]
            shape = step.left(shape, clamped(number), place, False)
        if shape != ABSENT:
            left.append((number, shape))
    return tuple(left)


def _table(kit, state, words, following):
    rows = {number: [cell if isinstance(cell, str) else words[cell] for cell in kit.shapes.cells(shape)]
            for number, shape in state}
    return Table(kit.columns, rows, following=following)
