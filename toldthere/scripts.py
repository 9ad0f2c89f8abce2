"""Scripts: statements one behind another, with the triggers of home and those of the copy."""

from toldthere.errors import BadScript, BadTrigger, NoStatement, UnlikeColumns
from toldthere.kinds import is_list, is_number
from toldthere.statements import Change, Drop, Put, Trigger


class Script:
    """Statements of the same columns, and the triggers here, at home, and there, at the copy; it never changes."""

    def __init__(self, columns, statements, *, here=(), there=()):
        if not is_list(statements):
            raise BadScript(0)
        for index, thing in enumerate(statements):
            if not is_statement(columns, thing):
                raise BadScript(index)
        if not are_triggers(columns, here):
            raise BadTrigger("here")
        if not are_triggers(columns, there):
            raise BadTrigger("there")
        self.columns = columns
        self.here = tuple(here)
        self.there = tuple(there)
        self._statements = tuple(statements)

    def statements(self):
        """The list of the statements."""
        return list(self._statements)

    def exchanged(self, index, statement):
        """The script with another statement at an index."""
        self._check_index(index)
        # All others are statements of these columns, so that a BadScript can have this index alone.
        statements = (*self._statements[:index], statement, *self._statements[index + 1:])
        return Script(self.columns, statements, here=self.here, there=self.there)

    def __len__(self):
        return len(self._statements)

    def __getitem__(self, index):
        self._check_index(index)
        return self._statements[index]

    def __iter__(self):
        # Without this, Python would ask for the statements 0, 1, 2 and so on.
        raise TypeError("a script is not iterated over: take its statements()")

    def __add__(self, other):
        if not isinstance(other, Script):
            return NotImplemented
        if self.columns != other.columns:
            raise UnlikeColumns()
        return Script(self.columns, self._statements + other._statements, here=self.here, there=self.there)

    def __iadd__(self, other):
        return self + other

    def __eq__(self, other):
        return (isinstance(other, Script) and self.columns == other.columns
                and self._statements == other._statements
                and self.here == other.here and self.there == other.there)

    def _check_index(self, index):
        """Raises the error for an object that is no index of a statement."""
        if not is_number(index) or not 0 <= index < len(self._statements):
            raise NoStatement(index)


def is_statement(columns, thing):
    """Whether an object is a statement of these columns."""
    return isinstance(thing, (Put, Drop, Change)) and thing.columns == columns


def are_triggers(columns, things):
    """Whether an object is a list of triggers of these columns."""
    return is_list(things) and all([isinstance(thing, Trigger) and thing.columns == columns for thing in things])
