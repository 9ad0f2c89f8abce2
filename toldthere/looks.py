"""Looks: which rows with which numbers are found."""

from toldthere.columns import can_stand
from toldthere.errors import BadLook, UnlikeColumns
from toldthere.kinds import is_list, is_number

GREATEST_NUMBER = 4
# No look names a number beyond 4, so that 5 stands for all of these.
NUMBERS = (1, 2, 3, 4, 5)
# These stand for all words of free columns that no look names. They are two, since two columns can have
# unlike ones; and they are no words, so that no look names them.
OTHER_WORDS = ("", "-")


def has(columns, name, values):
    """The look that finds the rows with one of the values in a column."""
    told = columns.told_values(name)
    if not _are_values(values, told):
        raise BadLook(values)
    return Look(columns, (("in", columns.names().index(name), tuple(values)),))


def same(columns, first, second):
    """The look that finds the rows with the same word in two columns."""
    one, other = columns.told_values(first), columns.told_values(second)
    if first == second or one != other:
        raise BadLook(second)
    names = columns.names()
    return Look(columns, (("same", names.index(first), names.index(second)),))


def numbered(columns, numbers):
    """The look that finds the rows with one of the numbers."""
    if not _are_numbers(numbers):
        raise BadLook(numbers)
    # To a look, the number of a row is one more word, behind those of the columns.
    return Look(columns, (("in", len(columns), tuple(numbers)),))


def every(columns):
    """The look that finds all rows."""
    return Look(columns, (("any",),))


class Look:
    """Tells of each row with a number whether it is found; made by the functions above and by operators."""

    def __init__(self, columns, steps):
        self.columns = columns
        # Each "and", "or" and "not" stands behind the steps that it joins: so looks may be nested as deep
        # as you like, and a look can be written as it was made.
        self.steps = steps

    def __call__(self, row, number):
        return self.found([(thing,) for thing in (*row, number)]) == 1

    def found(self, axes):
        """Which points are found: the number with a binary digit 1 for each of them, the first one ahead.

        There is an axis for each column, and one for the number. A point has one thing of each axis;
        points lie in the order in which nested loops over the axes meet them.
        """
        all_points = (1 << _count(axes)) - 1
        stack = []
        for step in self.steps:
            kind = step[0]
            if kind == "in":
                stack.append(_found_in(axes, step[1], step[2]))
            elif kind == "same":
                first, second = sorted(step[1:], key=int)
                stack.append(_found_same(axes, first, second))
            elif kind == "any":
                stack.append(all_points)
            elif kind == "not":
                stack.append(all_points ^ stack.pop())
            elif kind == "and":
                stack.append(stack.pop() & stack.pop())
            else:
                stack.append(stack.pop() | stack.pop())
        return stack[0]

    def __and__(self, other):
        return _joined(self, other, "and")

    def __or__(self, other):
        return _joined(self, other, "or")

    def __sub__(self, other):
        return self & ~other

    def __xor__(self, other):
        return (self | other) & ~(self & other)

    def __invert__(self):
        return Look(self.columns, (*self.steps, ("not",)))

    def __eq__(self, other):
        return isinstance(other, Look) and self.columns == other.columns and _find_alike(self, other)

    def __le__(self, other):
        mine, others = _found_by_both(self, other)
        return mine & others == mine

    def __lt__(self, other):
        mine, others = _found_by_both(self, other)
        return mine & others == mine and mine != others

    def __ge__(self, other):
        mine, others = _found_by_both(self, other)
        return mine & others == others

    def __gt__(self, other):
        mine, others = _found_by_both(self, other)
        return mine & others == others and mine != others


def _are_values(things, told):
    """Whether an object is a list of at least one word for a column, each once."""
    if not is_list(things) or len(things) == 0:
        return False
    return all([can_stand(thing, told) for thing in things]) and len(set(things)) == len(things)


def _are_numbers(things):
    """Whether an object is a list of at least one number that a look can name."""
    if not is_list(things) or len(things) == 0:
        return False
    return all([is_number(thing) and 1 <= thing <= GREATEST_NUMBER for thing in things])


def _joined(one, other, sign):
    """The look of two looks and of a sign between them."""
    if one.columns != other.columns:
        raise UnlikeColumns()
    return Look(one.columns, (*one.steps, *other.steps, (sign,)))


def _find_alike(one, other):
    """Whether two looks of the same columns find the same."""
    mine, others = _found_by_both(one, other)
    return mine == others


def _found_by_both(one, other):
    """What two looks find of the same points, which stand for all rows with all numbers."""
    if one.columns != other.columns:
        raise UnlikeColumns()
    axes = _axes(one.columns, (*one.steps, *other.steps))
    return one.found(axes), other.found(axes)


def _axes(columns, steps):
    """For each column, and behind them for the number, all things that these steps can tell apart."""
    told = [columns.told_values(name) for name in columns.names()]
    free = [at for at, values in enumerate(told) if values is None]
    # Words that are named for one free column count for both: the other one can have the same word.
    named = sorted(set([word for step in steps if step[0] == "in" and step[1] in free for word in step[2]]))
    return [(*named, *OTHER_WORDS) if values is None else values for values in told] + [NUMBERS]


def _count(axes):
    """How many points there are."""
    count = 1
    for axis in axes:
        count = count * len(axis)
    return count


def _found_in(axes, at, things):
    """The points with one of the things on the axis at this place."""
    inner = _count(axes[at + 1:])
    digits = ["1" * inner if thing in things else "0" * inner for thing in axes[at]]
    return int("".join(digits) * _count(axes[:at]), 2)


def _found_same(axes, first, second):
    """The points with the same thing on two axes, of which the first one stands ahead."""
    between, inner = _count(axes[first + 1:second]), _count(axes[second + 1:])
    digits = ["".join(["1" * inner if one == other else "0" * inner for other in axes[second]]) * between
              for one in axes[first]]
    return int("".join(digits) * _count(axes[:first]), 2)
