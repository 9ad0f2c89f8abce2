"""Trims: the fates of a node without those that no row can have, since rows are taken once and in an order."""

from toldthere.zones import MIDDLE


def trimmed(node):
    """The fates of a node that some table can have, as far as the rows that are taken tell."""
    if not _can_bar(node):
        return node.fates
    letters = [_letters(node, known) for known in node.fates]
    reached = [{0: True}]
    for zone, known in zip(node.zones, letters):
        reached.append(_reached(reached[-1], known, zone.role == MIDDLE))
    alive = {node.single: True} if node.single in reached[-1] else {}
    useful = []
    for place in range(len(node.zones) - 1, -1, -1):
        if node.zones[place].role == MIDDLE:
            alive, used = _alive_in_middle(reached[place + 1], alive, letters[place])
        else:
            alive, used = _alive(reached[place], alive, letters[place])
        useful.append(used)
    useful = useful[::-1]
    return [{fate: origin for fate, origin in known.items() if _letter(node, fate) in used}
            for known, used in zip(node.fates, useful)]


def _can_bar(node):
    """Whether there are any rows but in the middle that are taken, or any rows whose order tells."""
    for zone, known in zip(node.zones, node.fates):
        for fate in known:
            if fate[4] or fate[5] or zone.role != MIDDLE and fate[3] & node.single:
                return True
    return False


def _letter(node, fate):
    """The digits of a row that is taken, those that must have come true ahead of it, and those that must not."""
    taken = fate[3] & node.single
    return taken, fate[4], fate[5] | taken


def _letters(node, known):
    return list({_letter(node, fate): True for fate in known})


def _reached(states, letters, many):
    """The states, which are digits that have come true, behind a zone."""
    reached = {state: True for state in states} if many else {}
    waiting = list(states)
    while waiting:
        state = waiting.pop()
        for taken, ahead, unless in letters:
            left = state | taken
            if state & ahead == ahead and state & unless == 0 and left not in reached:
                reached[left] = True
                if many:
                    waiting.append(left)
    return reached


def _alive(states, behind, letters):
    """The states ahead of a zone from which the end can be reached, and the letters that are of use for it."""
    alive, used = {}, {}
    for state in states:
        for letter in letters:
            taken, ahead, unless = letter
            if state & ahead == ahead and state & unless == 0 and state | taken in behind:
                alive[state] = True
                used[letter] = True
    return alive, used


def _alive_in_middle(inner, behind, letters):
    """The same for the zone in which any rows may lie; inner are all states in it."""
    alive = {state: True for state in behind}
    used = {}
    # A row makes digits come true and none come untrue, so that the greater states come behind the lesser ones.
    for state in sorted(inner, key=int, reverse=True):
        can_end = state in alive
        lead_on = []
        for letter in letters:
            taken, ahead, unless = letter
            if state & ahead == ahead and state & unless == 0 and (taken == 0 or state | taken in alive):
                lead_on.append(letter)
                can_end = can_end or taken > 0
        if can_end:
            alive[state] = True
            for letter in lead_on:
                used[letter] = True
    return alive, used
