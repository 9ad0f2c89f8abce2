"""Which objects are integers, words and lists, as the whole package tells them."""

LETTERS = "abcdefghijklmnopqrstuvwxyz"
MOST_LETTERS = 8


def is_number(thing):
    """Whether an object is an integer."""
    return isinstance(thing, int) and not isinstance(thing, bool)


def is_word(thing):
    """Whether an object is a word: one to eight lower-case letters."""
    if not isinstance(thing, str) or not 1 <= len(thing) <= MOST_LETTERS:
        return False
    # Not islower: it also takes letters that are none of a to z.
    return all([letter in LETTERS for letter in thing])


def is_list(thing):
    """Whether an object is a list, or a tuple, which may stand for one."""
    return isinstance(thing, (list, tuple))
