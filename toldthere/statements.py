"""Statements, which put, drop and change rows, and triggers, which follow behind them."""

from toldthere.columns import can_stand
from toldthere.errors import BadStatement, BadTrigger
from toldthere.kinds import is_list, is_number
from toldthere.looks import Look

WAYS = ("words", "values", "rows")
MOST_TAKEN = 2


class Put:
    """Puts a row with the following number."""

    def __init__(self, columns, row, *, when=None, how="words"):
        if not _can_be_put(columns, row):
            raise BadStatement("row")
        _check_end(columns, when, False, how)
        self.kind = "put"
        self.columns = columns
        self.row = tuple([thing if isinstance(thing, str) else tuple(thing) for thing in row])
        self.when = _copied_guard(when)
        self.must = False
        self.how = how

    def told(self, how):
        """The statement that is told in another way."""
        return Put(self.columns, self.row, when=self.when, how=how)

    def by_number(self):
        """The statement itself: it takes no rows in an order."""
        return self

    def __eq__(self, other):
        return isinstance(other, Put) and self._parts() == other._parts()

    def _parts(self):
        return self.columns, self.row, self.when, self.how


class Drop:
    """Drops rows that its look finds: all of them, or the first one or two."""

    def __init__(self, look, *, most=None, by=(), when=None, must=False, how="words"):
        if not isinstance(look, Look):
            raise BadStatement("look")
        if most is not None and not (is_number(most) and 1 <= most <= MOST_TAKEN):
            raise BadStatement("most")
        _check_order(look.columns, by, most)
        _check_end(look.columns, when, must, how)
        self.kind = "drop"
        self.columns = look.columns
        self.look = look
        self.most = most
        self.by = tuple(by)
        self.when = _copied_guard(when)
        self.must = must
        self.how = how

    def told(self, how):
        """The statement that is told in another way."""
        return Drop(self.look, most=self.most, by=self.by, when=self.when, must=self.must, how=how)

    def by_number(self):
        """The statement that takes its rows by their numbers, where its order leaves them level."""
        by = _ordered_by_number(self.by, self.most)
        return Drop(self.look, most=self.most, by=by, when=self.when, must=self.must, how=self.how)

    def __eq__(self, other):
        return isinstance(other, Drop) and self._parts() == other._parts()

    def _parts(self):
        return self.columns, self.look, self.most, self.by, self.when, self.must, self.how


class Change:
    """Changes rows that its look finds: all of them, or the first one or two, each by its own change."""

    def __init__(self, look, changes, *, by=(), when=None, must=False, how="words"):
        if not isinstance(look, Look):
            raise BadStatement("look")
        if not _are_changes(look.columns, changes):
            raise BadStatement("changes")
        most = None if isinstance(changes, dict) else len(changes)
        _check_order(look.columns, by, most)
        _check_end(look.columns, when, must, how)
        self.kind = "change"
        self.columns = look.columns
        self.look = look
        self.changes = _copied_changes(changes)
        self.most = most
        self.by = tuple(by)
        self.when = _copied_guard(when)
        self.must = must
        self.how = how

    def told(self, how):
        """The statement that is told in another way."""
        return Change(self.look, self.changes, by=self.by, when=self.when, must=self.must, how=how)

    def by_number(self):
        """The statement that takes its rows by their numbers, where its order leaves them level."""
        by = _ordered_by_number(self.by, self.most)
        return Change(self.look, self.changes, by=by, when=self.when, must=self.must, how=self.how)

    def __eq__(self, other):
        return isinstance(other, Change) and self._parts() == other._parts()

    def _parts(self):
        return self.columns, self.look, self.changes, self.by, self.when, self.must, self.how


class Trigger:
    """Changes a row that a statement has put, or taken and not dropped, if its look finds the row then."""

    def __init__(self, look, change):
        if not isinstance(look, Look):
            raise BadTrigger("look")
        if not _is_change(look.columns, change) or _has_new_words(change):
            raise BadTrigger("change")
        self.columns = look.columns
        self.look = look
        self.change = _copied_change(change)

    def __eq__(self, other):
        return isinstance(other, Trigger) and self.look == other.look and self.change == other.change


def _is_source(columns, name, thing):
    """Whether an object is a source of words for the column with this name."""
    values = columns.told_values(name)
    if not is_list(thing) or len(thing) == 0:
        return False
    if len(thing) == 1:
        return thing[0] in ("moment", "throw") and values is None
    if thing[0] == "value":
        return len(thing) == 2 and can_stand(thing[1], values)
    return (thing[0] == "column" and len(thing) == 2 and thing[1] in columns
            and columns.told_values(thing[1]) == values)


def _is_moment(thing):
    """Whether an object is the source of a moment."""
    return is_list(thing) and len(thing) == 1 and thing[0] == "moment"


def _can_be_put(columns, row):
    """Whether an object is a row of a Put: a list of a word or a moment for each column."""
    if not is_list(row) or len(row) != len(columns):
        return False
    told = [columns.told_values(name) for name in columns.names()]
    return all([can_stand(thing, values) or values is None and _is_moment(thing) for values, thing in zip(told, row)])


def _is_change(columns, thing):
    """Whether an object is a change: a dict from names of columns to sources."""
    if not isinstance(thing, dict):
        return False
    return all([name in columns and _is_source(columns, name, source) for name, source in thing.items()])


def _are_changes(columns, things):
    """Whether an object is a change, or a list of one or two of them."""
    if is_list(things):
        return 1 <= len(things) <= MOST_TAKEN and all([_is_change(columns, thing) for thing in things])
    return _is_change(columns, things)


def _has_new_words(change):
    """Whether a change has a moment or a throw."""
    return any([len(source) == 1 for source in change.values()])


def _copied_change(change):
    return {name: tuple(source) for name, source in change.items()}


def _copied_changes(changes):
    if isinstance(changes, dict):
        return _copied_change(changes)
    return tuple([_copied_change(change) for change in changes])


def _copied_guard(when):
    return None if when is None else tuple(when)


def _is_guard(columns, thing):
    """Whether an object is a guard with a look of these columns."""
    return (is_list(thing) and len(thing) == 2 and thing[0] in ("some", "none")
            and isinstance(thing[1], Look) and thing[1].columns == columns)


def _is_order(columns, thing):
    """Whether an object is a list of told columns, and perhaps of the number behind them, each once."""
    if not is_list(thing) or not all([isinstance(part, str) for part in thing]):
        return False
    names = [part.removeprefix("-") for part in thing]
    if names and names[-1] == "number":
        names.pop()
    if not all([name in columns and columns.told_values(name) is not None for name in names]):
        return False
    return len(set(names)) == len(names)


def _check_order(columns, by, most):
    """Raises the error for an order of the rows that are taken; None for most: of all that are found."""
    if not _is_order(columns, by) or most is None and len(by) > 0:
        raise BadStatement("by")


def _check_end(columns, when, must, how):
    """Raises the error for the first wrong one of the parts that stand last."""
    if when is not None and not _is_guard(columns, when):
        raise BadStatement("when")
    if not isinstance(must, bool):
        raise BadStatement("must")
    if how not in WAYS:
        raise BadStatement("how")


def _ordered_by_number(by, most):
    """The order with the number behind it, if rows are taken in an order, and it does not end so yet."""
    if most is None or by and by[-1] in ("number", "-number"):
        return by
    return (*by, "number")
