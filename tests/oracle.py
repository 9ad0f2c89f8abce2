"""Home and copy, step by step, by the words of sections 5 and 6 of the document.

Nothing here asks the package for more than what a look finds and of which parts a statement consists.
A state of a store is a pair of a dict from numbers to rows and of the following number.
"""

import itertools

from toldthere.columns import Columns
from toldthere.tables import Table


def is_source(thing, kind):
    return not isinstance(thing, str) and thing[0] == kind


def changes(statement):
    if statement.kind != "change":
        return []
    return [statement.changes] if isinstance(statement.changes, dict) else list(statement.changes)


def change_for(statement, place):
    return statement.changes if isinstance(statement.changes, dict) else statement.changes[place]


def has_moment(statement):
    if statement.kind == "put":
        return any(is_source(thing, "moment") for thing in statement.row)
    return any(is_source(source, "moment") for change in changes(statement) for source in change.values())


def has_throw(statement):
    return any(is_source(source, "throw") for change in changes(statement) for source in change.values())


def found(look, rows):
    return [number for number in sorted(rows) if look(rows[number], number)]


def is_run(statement, rows):
    if statement.when is None:
        return True
    word, look = statement.when
    return bool(found(look, rows)) if word == "some" else not found(look, rows)


def comes_earlier(columns, by, one, other):
    """Whether a pair (number, row) surely comes ahead of another one."""
    for part in by:
        name, sign = part.removeprefix("-"), -1 if part[0] == "-" else 1
        if name == "number":
            first, second = one[0], other[0]
        else:
            at, values = columns.names().index(name), columns.told_values(name)
            first, second = values.index(one[1][at]), values.index(other[1][at])
        if first != second:
            return first * sign < second * sign
    return False


def takings(statement, rows):
    """All lists of numbers that a Drop or Change that is run can take."""
    numbers = found(statement.look, rows)
    if statement.most is None:
        return [numbers]
    lists = [[]]
    for _ in range(min(statement.most, len(numbers))):
        longer = []
        for taken in lists:
            left = [number for number in numbers if number not in taken]
            for number in left:
                pairs = [(other, rows[other]) for other in left]
                if not any(comes_earlier(statement.columns, statement.by, pair, (number, rows[number]))
                           for pair in pairs):
                    longer.append(taken + [number])
        lists = longer
    return lists


def changed(columns, row, change, moment, throw):
    names, new = columns.names(), list(row)
    for name, source in change.items():
        words = {"value": lambda: source[1], "column": lambda: row[names.index(source[1])],
                 "moment": lambda: moment, "throw": lambda: throw}
        new[names.index(name)] = words[source[0]]()
    return tuple(new)


def triggered(triggers, row, number):
    for trigger in triggers:
        if trigger.look(row, number):
            row = changed(trigger.columns, row, trigger.change, None, None)
    return row


def throws_needed(statement, taken):
    return [number for place, number in enumerate(taken)
            if statement.kind == "change"
            and any(is_source(source, "throw") for source in change_for(statement, place).values())]


def apply(statement, rows, taken, triggers, moment, throws):
    """From numbers to what a Drop or Change makes of the taken rows: a row, or None."""
    left = {}
    for place, number in enumerate(taken):
        if statement.kind == "drop":
            left[number] = None
        else:
            row = changed(statement.columns, rows[number], change_for(statement, place), moment, throws.get(number))
            left[number] = triggered(triggers, row, number)
    return left


def with_rows(rows, left):
    mixed = {**rows, **left}
    return {number: mixed[number] for number in sorted(mixed) if mixed[number] is not None}


def put_row(statement, number, triggers, moment):
    return triggered(triggers, tuple(moment if is_source(thing, "moment") else thing for thing in statement.row),
                     number)


class Told:
    """What home tells of a statement."""

    def __init__(self, statement, entry, drawn, left, following):
        self.statement, self.entry, self.drawn, self.left, self.following = statement, entry, drawn, left, following


def home_steps(statement, state, triggers, tag):
    """All (state, Told) behind a statement at home; none if it is refused."""
    rows, following = state
    moment = f"*{tag}m" if has_moment(statement) else None
    run = is_run(statement, rows)
    if statement.kind == "put":
        left = {following: put_row(statement, following, triggers, moment)} if run else {}
        entry = (list(left), moment, {})
        return [((with_rows(rows, left), following + 1), Told(statement, entry, following, left, following + 1))]
    if not run:
        return [(state, Told(statement, ([], moment, {}), None, {}, following))]
    if statement.must and not found(statement.look, rows):
        return []
    steps = []
    for taken in takings(statement, rows):
        throws = {number: f"*{tag}t{number}" for number in throws_needed(statement, taken)}
        left = apply(statement, rows, taken, triggers, moment, throws)
        steps.append(((with_rows(rows, left), following), Told(statement, (taken, moment, throws), None, left, following)))
    return steps


def copy_steps(told, state, triggers, tag):
    """All (state, entry, refused) behind a statement that the copy is told."""
    statement, (rows, following) = told.statement, state
    if statement.how == "rows":
        return [((with_rows(rows, told.left), max(following, told.following)), None, False)]
    values = statement.how == "values"
    moment = None
    if has_moment(statement):
        moment = told.entry[1] if values else f"*{tag}m"
    run = is_run(statement, rows)
    if statement.kind == "put":
        number = told.drawn if values else following
        left = {number: put_row(statement, number, triggers, moment)} if run else {}
        return [((with_rows(rows, left), max(following, number + 1)), (list(left), moment, {}), False)]
    if not run:
        return [(state, ([], moment, {}), False)]
    if statement.must and not found(statement.look, rows):
        return [(state, ([], moment, {}), True)]
    steps = []
    for taken in takings(statement, rows):
        throws = {}
        for number in throws_needed(statement, taken):
            throws[number] = f"*{tag}t{number}"
            if values and number in told.entry[2]:
                throws[number] = told.entry[2][number]
        left = apply(statement, rows, taken, triggers, moment, throws)
        steps.append(((with_rows(rows, left), following), (taken, moment, throws), False))
    return steps


def home_runs(statements, state, triggers):
    """All (state, list of Told) behind all statements at home."""
    runs = [(state, [])]
    for index, statement in enumerate(statements):
        runs = [(after, tolds + [told]) for before, tolds in runs
                for after, told in home_steps(statement, before, triggers, f"h{index}")]
    return runs


def copy_runs(tolds, state, triggers):
    """All (state, entries, place of the one at which it halts or None)."""
    ended, runs = [], [(state, [])]
    for place, told in enumerate(tolds):
        following = []
        for before, entries in runs:
            for after, entry, refused in copy_steps(told, before, triggers, f"c{place}"):
                if refused:
                    ended.append((after, entries + [entry], place))
                else:
                    following.append((after, entries + [entry]))
        runs = following
    return ended + [(state, entries, None) for state, entries in runs]


def unlike_numbers(one, other):
    return [number for number in {**one, **other} if one.get(number) != other.get(number)]


class Ends:
    """What can come of a table: whether home and copy can part, and so on."""

    def __init__(self, plan, state, order=None):
        order = list(range(len(plan))) if order is None else order
        self.parts, self.halts, self.most, self.runs = False, set(), None, 0
        for home, tolds in home_runs(plan.statements(), state, plan.here):
            self.runs += 1
            for copy, _, halted in copy_runs([tolds[index] for index in order], state, plan.there):
                if halted is not None:
                    self.parts = True
                    self.halts.add(order[halted])
                else:
                    self.parts = self.parts or home != copy
                    self.most = max(self.most or 0, len(unlike_numbers(home[0], copy[0])))


def kinds(columns, named, others=2):
    """All rows that looks and changes with these named words can tell apart, and some more."""
    free = list(named) + [f"*o{k}" for k in range(others)]
    words = [columns.told_values(name) or free for name in columns.names()]
    rows = [tuple(row) for row in itertools.product(*words)]
    # Of rows that differ just in which of the other words they have, one is enough.
    seen, kept = set(), []
    for row in rows:
        known, shape = {}, []
        for word in row:
            shape.append(known.setdefault(word, len(known)) if word.startswith("*o") else word)
        if tuple(shape) not in seen:
            seen.add(tuple(shape))
            kept.append(row)
    return kept


def apart(row, number):
    """The row with words of its own instead of the words that nothing names."""
    return tuple(f"{word}n{number}" if word.startswith("*o") else word for word in row)


def states(rows, most, numbers, followings):
    """All states with up to so many rows of these kinds, with these numbers and following numbers."""
    for count in range(most + 1):
        for chosen in itertools.combinations(numbers, count):
            for picked in itertools.product(rows, repeat=count):
                table = {number: apart(row, number) for number, row in zip(chosen, picked)}
                for following in followings:
                    if not chosen or following > chosen[-1]:
                        yield table, following


def is_new(word, named, start, known):
    return (isinstance(word, str) and 1 <= len(word) <= 8 and word.isalpha() and word.islower() and word.isascii()
            and word not in named and word not in known and all(word not in row for row in start.rows().values()))


def possible_parting(plan, parting, order=None):
    """Checks that a parting can be, by replaying it; returns the number of unlike numbers at the end."""
    return replay(plan.columns, plan.statements(), plan.here, plan.there, parting,
                  list(range(len(plan))), list(range(len(plan))) if order is None else order)


def named_words(columns, statements, triggers):
    words = set()
    for name in columns.names():
        words.update(columns.told_values(name) or ())

    def of_look(look):
        for step in look.steps:
            if step[0] == "in":
                words.update(thing for thing in step[2] if isinstance(thing, str))

    def of_change(change):
        words.update(source[1] for source in change.values() if source[0] == "value")

    for statement in statements:
        if statement.kind == "put":
            words.update(thing for thing in statement.row if isinstance(thing, str))
        else:
            of_look(statement.look)
        if statement.when:
            of_look(statement.when[1])
        for change in changes(statement):
            of_change(change)
    for trigger in triggers:
        of_look(trigger.look)
        of_change(trigger.change)
    return words


def replay(columns, statements, here, there, parting, home_order, copy_order):
    """Follows the entries of a parting; home_order and copy_order are lists of indexes of statements."""
    named = named_words(columns, statements, list(here) + list(there))
    start, known = parting.start, set()
    assert isinstance(start, Table) and isinstance(columns, Columns) and start.columns == columns
    assert all(len(str(number)) <= 40 for number in [*start.rows(), start.following])

    def take(entry, needs_moment, needs, told_moment=None, told_throws=()):
        numbers, moment, throws = entry
        assert isinstance(entry, tuple) and isinstance(numbers, list) and isinstance(throws, dict)
        if not needs_moment:
            assert moment is None
        elif told_moment is not None:
            assert moment == told_moment
        else:
            assert is_new(moment, named, start, known), moment
            known.add(moment)
        assert list(throws) == needs, (throws, needs)
        for number, word in throws.items():
            if number in told_throws:
                assert word == told_throws[number]
            else:
                assert is_new(word, named, start, known), word
                known.add(word)

    def run(statement, state, entry, triggers, told, drawn):
        rows, following = state
        numbers, moment, throws = entry
        runs = is_run(statement, rows)
        told_moment, told_throws = (told.entry[1], told.entry[2]) if told else (None, {})
        if statement.kind == "put":
            number = following if drawn is None else drawn
            take(entry, has_moment(statement), [], told_moment)
            left = {number: put_row(statement, number, triggers, moment)} if runs else {}
            assert numbers == list(left)
            return (with_rows(rows, left), max(following, number + 1)), left, number, False
        assert numbers in (takings(statement, rows) if runs else [[]]), (numbers, rows)
        take(entry, has_moment(statement), throws_needed(statement, numbers), told_moment, told_throws)
        left = apply(statement, rows, numbers, triggers, moment, throws)
        return (with_rows(rows, left), following), left, None, runs and statement.must and not numbers

    state, tolds = (start.rows(), start.following), {}
    assert len(parting.home) == len(home_order)
    for index, entry in zip(home_order, parting.home):
        state, left, drawn, refused = run(statements[index], state, entry, here, None, None)
        assert not refused
        tolds[index] = Told(statements[index], entry, drawn, left, state[1])
    home, state, halted = state, (start.rows(), start.following), None
    for place, entry in enumerate(parting.copy):
        index = copy_order[place]
        statement, told = statements[index], tolds[index]
        if statement.how == "rows":
            assert entry is None
            state = with_rows(state[0], told.left), max(state[1], told.following)
            continue
        values = statement.how == "values"
        state, _, _, refused = run(statement, state, entry, there, told if values else None,
                                   told.drawn if values else None)
        if refused:
            assert place == len(parting.copy) - 1
            halted = index
    assert halted is not None or len(parting.copy) == len(copy_order)
    assert parting.halted == halted
    assert (parting.here.rows(), parting.here.following) == home
    assert (parting.there.rows(), parting.there.following) == state
    assert home != state or halted is not None
    return len(unlike_numbers(home[0], state[0]))
