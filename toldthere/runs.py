"""How one store runs one statement on its rows: section 6 of the document, for rows with words."""

from toldthere.kinds import is_list, is_number

# These stand for new words until the words are known: no look names them, and they are unlike all words.
NEW_MOMENT = "*moment"
NEW_THROW = "*throw"


def has_source(statement, kind):
    """Whether a statement has a moment, or a throw."""
    if statement.kind == "put":
        return any([thing[0] == kind for thing in statement.row if not isinstance(thing, str)])
    return any([source[0] == kind for change in changes_of(statement) for source in change.values()])


def changes_of(statement):
    """The changes of a statement, the one for all rows alone; a Drop has none."""
    if statement.kind != "change":
        return ()
    return statement.changes if is_list(statement.changes) else (statement.changes,)


def change_at(statement, place):
    """The change for the row that is taken at a place."""
    return statement.changes[place] if is_list(statement.changes) else statement.changes


def found(look, rows):
    """The numbers of the rows that a look finds, in the order of the rows."""
    return [number for number in rows if look(rows[number], number)]


def is_run(statement, rows):
    """Whether the guard of a statement lets it be run."""
    if statement.when is None:
        return True
    return (len(found(statement.when[1], rows)) > 0) == (statement.when[0] == "some")


def asks_how_rows_lie(statement):
    """Whether a statement takes the first rows of an order in which rows can be level."""
    if statement.kind == "put" or statement.most is None:
        return False
    return len(statement.by) == 0 or statement.by[-1] not in ("number", "-number")


def rank(statement, row):
    """A number that is less for a row that comes earlier by the columns of the order."""
    names = statement.columns.names()
    worth = 0
    for part in statement.by:
        name = part.removeprefix("-")
        if name != "number":
            values = statement.columns.told_values(name)
            place = values.index(row[names.index(name)])
            worth = worth * len(values) + (len(values) - 1 - place if part.startswith("-") else place)
    return worth


def taken(statement, rows, lying):
    """The numbers of the rows that a Drop or Change takes, in their order; lying lists all numbers as rows lie."""
    if statement.most is None:
        return found(statement.look, rows)
    look = statement.look
    order = lying if asks_how_rows_lie(statement) else sorted(rows, key=int)
    if statement.by and statement.by[-1] == "-number":
        order = order[::-1]
    ranked = {}
    for number in order:
        if look(rows[number], number):
            ranked.setdefault(rank(statement, rows[number]), []).append(number)
    level = [number for worth in sorted(ranked, key=int) for number in ranked[worth]]
    return level[:statement.most]


def _changed(columns, row, change, moment, throw):
    """The row behind a change, which takes all words from the row as it was."""
    names = columns.names()
    words = list(row)
    for name, source in change.items():
        kind = source[0]
        if kind == "value":
            word = source[1]
        elif kind == "column":
            word = row[names.index(source[1])]
        else:
            word = moment if kind == "moment" else throw
        words[names.index(name)] = word
    return tuple(words)


def _triggered(triggers, row, number):
    """The row behind all triggers."""
    for trigger in triggers:
        look = trigger.look
        if look(row, number):
            row = _changed(trigger.columns, row, trigger.change, None, None)
    return row


def put_row(statement, number, triggers, moment):
    """The row that a Put leaves at a number."""
    row = tuple([thing if isinstance(thing, str) else moment for thing in statement.row])
    return _triggered(triggers, row, number)


def results(statement, rows, numbers, triggers, moment, throws):
    """From each number that a Drop or Change takes, in their order, to what becomes of the row: a row or None."""
    left = {}
    for place, number in enumerate(numbers):
        if statement.kind == "drop":
            left[number] = None
        else:
            throw = throws.get(number, NEW_THROW)
            row = _changed(statement.columns, rows[number], change_at(statement, place), moment, throw)
            left[number] = _triggered(triggers, row, number)
    return left


def thrown(statement, numbers):
    """The numbers of the rows, of those that are taken, that get a throw, in their order."""
    if statement.kind != "change":
        return []
    return [number for place, number in enumerate(numbers)
            if ("throw",) in list(change_at(statement, place).values())]


def changed_rows(rows, left):
    """The rows, by ascending numbers, with what has become of some of them: a row, or None."""
    mixed = {number: left.get(number, rows.get(number)) for number in sorted([*rows, *left], key=int)}
    return {number: row for number, row in mixed.items() if row is not None}


def is_lying(order, rows):
    """Whether an object is a list of the numbers of all rows, each once."""
    if not is_list(order) or not all([is_number(number) for number in order]):
        return False
    return sorted(order, key=int) == sorted(rows, key=int)
