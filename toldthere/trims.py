"""Trims: the fates of a node without those that no row can have, since rows are taken once and in an order."""

from toldthere.zones import MIDDLE


def trimmed(node):
    """The fates of a node that some table can have, as far as the rows that are taken tell."""
    if not _can_bar(node):
        return node.fates
    letters = [_letters(node, known) for known in node.fates]
    reached = [{0: True}]
    for zone, known in zip(node.zones, letters):
        reached.append(_reached(reached[-1], known, zone.role == MIDDLE))
    alive = {node.single: True} if node.single in reached[-1] else {}
    useful = []
    for place in range(len(node.zones) - 1, -1, -1):
        alive, used = _alive(reached[place], alive, letters[place], node.zones[place].role == MIDDLE)
        useful.append(used)
    useful = useful[::-1]
    return [{fate: origin for fate, origin in known.items() if _letter(node, fate) in used}
            for known, used in zip(node.fates, useful)]


def _can_bar(node):
    """Whether there are any rows but in the middle that are taken, or any rows whose order tells."""
    for zone, known in zip(node.zones, node.fates):
        for fate in known:
            if fate[4] or fate[5] or zone.role != MIDDLE and fate[3] & node.single:
                return True
    return False


def _letter(node, fate):
    return fate[3] & node.single, fate[4], fate[5]


def _letters(node, known):
    return list({_letter(node, fate): True for fate in known})


def _behind(state, letter):
    """The digits behind a row, None if it cannot lie behind these."""
    taken, ahead, unless = letter
    if state & ahead != ahead or state & unless or state & taken:
        return None
    return state | taken


def _reached(states, letters, many):
    """The states behind a zone."""
    reached = {state: True for state in states} if many else {}
    waiting = list(states)
    while waiting:
        state = waiting.pop()
        for letter in letters:
            left = _behind(state, letter)
            if left is not None and left not in reached:
                reached[left] = True
                if many:
                    waiting.append(left)
    return reached


def _alive(states, behind, letters, many):
    """The states ahead of a zone from which the end can be reached, and the letters that are of use for it."""
    if not many:
        steps = [(state, letter, _behind(state, letter)) for state in states for letter in letters]
        useful = [(state, letter) for state, letter, left in steps if left is not None and left in behind]
        return {state: True for state, _ in useful}, {letter: True for _, letter in useful}
    alive = {state: True for state in behind}
    inner = _reached(states, letters, True)
    # A row makes digits come true and none come untrue, so that the greater states come behind the lesser ones.
    for state in sorted(inner, key=int, reverse=True):
        if any([_behind(state, letter) in alive for letter in letters]):
            alive[state] = True
    used = {letter: True for state in inner for letter in letters
            if state in alive and _behind(state, letter) in alive}
    return alive, used
