"""Locks: when a statement has to wait for a dealing that is open, as section 9 of the document tells."""

LEVELS = ("rows", "found", "looks")


class Mark:
    """What a statement has to do with one row, or, which is all the same here, with one shape of rows.

    finds is a function that tells of a row whether a look that the statement uses finds it at this number.
    """

    def __init__(self, took, was_found, before, after, finds):
        self.took = took
        self.was_found = was_found
        # The row ahead of the statement, and as the statement has left it.
        self.before = before
        self.after = after
        self.finds = finds


def has_to_wait(level, mine, other):
    """Whether a statement has to wait for the dealing of another one, both with marks at the same row."""
    if mine.took and other.took:
        return True
    if level == "rows":
        return False
    if mine.was_found and other.took or mine.took and other.was_found:
        return True
    if level == "found":
        return False
    i_find, other_finds = mine.finds, other.finds
    if other.took and (i_find(other.before) or i_find(other.after)):
        return True
    return mine.took and (other_finds(mine.before) or other_finds(mine.after))
