"""Small tables for the tests, and what can come of them by the oracle."""

from tests import oracle


class Smallest:
    """What the oracle finds on all tables of up to so many rows: for each thing the least number of rows."""

    def __init__(self, maker, plan, most, order=None):
        self.most = most
        self.parts = None
        self.halts, self.wide = {}, {}
        for state in states(maker, most):
            ends, count = oracle.Ends(plan, state, order), len(state[0])
            if ends.parts and self.parts is None:
                self.parts = count
            for index in ends.halts:
                self.halts.setdefault(index, count)
            for least in range(1, (ends.most or 0) + 1):
                self.wide.setdefault(least, count)

    def fits(self, told, found):
        """Whether a table, or None, can be the smallest one if the oracle found one of so many rows, or None."""
        if found is not None:
            return told is not None and len(told.start) == found
        return told is None or len(told.start) > self.most


def states(maker, most):
    """All tables with up to so many rows, fewer ones ahead: with gaps between the numbers."""
    named = maker.words if any(maker.columns.told_values(name) is None for name in maker.columns.names()) else ()
    rows = oracle.kinds(maker.columns, named)
    if maker.numbers:
        return oracle.states(rows, most, [1, 2, 3, 4, 6, 8], [1, 2, 3, 4, 5, 7, 9])
    return oracle.states(rows, most, [2, 5, 7][:most], [9])
