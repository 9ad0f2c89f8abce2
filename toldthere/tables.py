"""Tables: rows with numbers, and the number that the next row gets."""

from toldthere.errors import BadFollowing, BadNumber, BadRow, NoRow
from toldthere.kinds import is_number


class Table:
    """Rows of the same columns with their numbers; it never changes."""

    def __init__(self, columns, rows, *, following=None):
        numbers = sorted(rows, key=int)
        if numbers and numbers[0] < 1:
            raise BadNumber(numbers[0])
        for number in numbers:
            if not columns.is_row(rows[number]):
                raise BadRow(number)
        least = numbers[-1] + 1 if numbers else 1
        if following is not None and following < least:
            raise BadFollowing(following)
        self.columns = columns
        self.following = least if following is None else following
        self._rows = {number: tuple(rows[number]) for number in numbers}

    def rows(self):
        """The dict from the numbers, ascending, to the rows."""
        return dict(self._rows)

    def numbers(self):
        """The ascending list of the numbers of the rows."""
        return list(self._rows)

    def __len__(self):
        return len(self._rows)

    def __contains__(self, thing):
        # True equals 1, and a list may not be looked up in a dict.
        return is_number(thing) and thing in self._rows

    def __getitem__(self, number):
        if number not in self:
            raise NoRow(number)
        return self._rows[number]

    def __iter__(self):
        # Without this, Python would ask for the rows 0, 1, 2 and so on.
        raise TypeError("a table is not iterated over: take its rows() or numbers()")

    def __eq__(self, other):
        return (isinstance(other, Table) and self.columns == other.columns
                and self.following == other.following and self._rows == other._rows)
