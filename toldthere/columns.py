"""The columns of a table."""

from toldthere.errors import BadColumns, NoColumn
from toldthere.kinds import is_list, is_word

MOST_COLUMNS = 3
MOST_FREE = 2
MOST_VALUES = 3


def _is_name(thing):
    """Whether an object can be the name of a column."""
    return is_word(thing) and thing != "number"


def _are_values(thing):
    """Whether an object is a list of the words that a column can have."""
    if not is_list(thing) or not 1 <= len(thing) <= MOST_VALUES:
        return False
    # The words are told first, since other objects may not stand in a set.
    return all([is_word(value) for value in thing]) and len(set(thing)) == len(thing)


def _is_told(thing):
    """Whether an object is a pair of a name and of the values of a column."""
    return is_list(thing) and len(thing) == 2 and _is_name(thing[0]) and _are_values(thing[1])


def can_stand(thing, values):
    """Whether an object is a word for a column with these values (None: a free one)."""
    return is_word(thing) and (values is None or thing in values)


class Columns:
    """One to three columns: those with told values, and behind them the free ones."""

    def __init__(self, told, free=()):
        values = {}
        for index, thing in enumerate(told):
            if index == MOST_COLUMNS or not _is_told(thing) or thing[0] in values:
                raise BadColumns(index)
            values[thing[0]] = tuple(thing[1])
        for place, name in enumerate(free):
            index = len(told) + place
            if index == MOST_COLUMNS or place == MOST_FREE or not _is_name(name) or name in values:
                raise BadColumns(index)
            values[name] = None
        if not values:
            raise BadColumns(0)
        # From each name, in the order of the columns, to its values, None for a free column.
        self._values = values

    def names(self):
        """The list of the names of the columns, in their order."""
        return list(self._values)

    def told_values(self, name):
        """The tuple of the values of a column, None for a free one."""
        if name not in self:
            raise NoColumn(name)
        return self._values[name]

    def is_row(self, thing):
        """Whether an object is a row of these columns, or a list of its words."""
        if not is_list(thing) or len(thing) != len(self._values):
            return False
        return all([can_stand(word, values) for values, word in zip(self._values.values(), thing)])

    def __len__(self):
        return len(self._values)

    def __contains__(self, thing):
        # Not every object may be looked up in a dict: a list may not.
        return isinstance(thing, str) and thing in self._values

    def __eq__(self, other):
        # Lists, since dicts are equal whatever the order of their keys.
        return isinstance(other, Columns) and list(self._values.items()) == list(other._values.items())
