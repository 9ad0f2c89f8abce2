"""Covers: how few rows make come true all that a node asks for."""

from toldthere.nodes import HOPE
from toldthere.shapes import ABSENT
from toldthere.zones import MIDDLE, PLACE


def least_rows(node, hopes, sought):
    """A number of rows that a node surely needs, None if it asks for what no rows can be."""
    needs = node.needs | (HOPE if sought else 0)
    free, union = 0, 0
    masks = {}
    for zone, known in zip(node.zones, node.fates):
        if len(known) == 0 and zone.role == PLACE:
            return None
        for fate in known:
            sure = fate[3]
            if sought and hopes.of(node.place, zone, fate):
                sure = sure | HOPE
            union = union | sure
            if zone.role == PLACE:
                free = free | sure
            else:
                masks[sure] = True
    if needs & ~union:
        return None
    rest = needs & ~free
    if sought > 1:
        count = _most_unlike(node, hopes, sought)
        if count < sought:
            return None
        places = len([zone for zone in node.zones if zone.role == PLACE])
        return max(int(sought - places), _fewest(masks, rest, node.single))
    return _fewest(masks, rest, node.single)


def _fewest(masks, rest, single):
    """Whether none, one, two or more rows are needed for the rest."""
    if rest == 0:
        return 0
    parts = {mask & (rest | single): True for mask in masks}
    if any([rest & ~part == 0 for part in parts]):
        return 1
    listed = list(parts)
    for place, one in enumerate(listed):
        lacking = rest & ~one
        barred = one & single
        for other in listed[place + 1:]:
            if lacking & ~other == 0 and other & barred == 0:
                return 2
    return 3


def _most_unlike(node, hopes, sought):
    """At least as many numbers as can be unlike at the end, as far as single rows can tell; sought if no fewer."""
    calm = hopes.calm
    # Each number that is not free needs a row that is taken as one of the first: so far, or later on.
    free, others, taken, later = 0, 0, 0, 0
    for zone, known in zip(node.zones, node.fates):
        hoping = [fate for fate in known if hopes.of(node.place, zone, fate)]
        untaken = [fate for fate in hoping if fate[3] & node.single == 0]
        if any([calm.of(node.place, zone, fate) for fate in untaken]):
            if zone.role == MIDDLE:
                # There may be any number of such rows.
                return sought
            free += 1
        elif hoping:
            others += sought if zone.role == MIDDLE else 1
            if untaken:
                later = hopes.takes_behind(node.place)
            for fate in hoping:
                taken = taken | fate[3] & node.single
    return free + min(int(others), _count(taken) + later)


def _count(digits):
    """How many digits there are."""
    count = 0
    while digits:
        digits = digits & (digits - 1)
        count += 1
    return count


def cheapest(node, sought, endless):
    """As few rows as possible by which all comes true: a list of zones, fates and first shapes, None if none do."""
    # A state tells by digits what has come true and, behind these, how many unlike numbers there are, up to as many
    # as are sought. With each state stands the least number of rows for it, and how these have come to it.
    best = {0: (0, None)}
    top = sought * node.digit
    end = node.needs + top
    for place, (zone, known) in enumerate(zip(node.zones, node.fates)):
        letters = _letters(node, zone, known, endless, node.digit if sought else 0)
        if zone.role == MIDDLE:
            best = _with_any(best, letters, zone, top, end if place == len(node.zones) - 1 else None)
        else:
            best = _with_one(best, letters, zone, top)
    if end not in best:
        return None
    rows = []
    path = best[end][1]
    while path is not None:
        path, *row = path
        rows.append(tuple(row))
    return rows[::-1]


def _letters(node, zone, known, endless, digit):
    """Of the fates of a zone those that may be of use, each with its digits; digit is that of one more unlike number.

    This is a list of tuples: what comes true, what must have, what must not, the digit or 0, the number of rows,
    the fate and the first shape.
    """
    groups = {}
    for fate, origin in known.items():
        unlike = fate[0] != fate[1]
        if endless:
            # There can be any number only of such rows as are never taken as one of the first.
            unlike = unlike and zone.role == MIDDLE and fate[3] & node.single == 0
        # A row that Puts may put, and no row at all, are none of the table at the beginning.
        rows = 1 if origin != ABSENT else 0
        taken = fate[3] & node.single
        # More of these digits never do harm: of fates that differ in them alone, the greatest are enough.
        free = fate[3] ^ taken | (digit if unlike else 0)
        group = groups.setdefault((taken, fate[4], fate[5]), [])
        if all([free & ~other or rows < less for other, less, _, _ in group]):
            left = [one for one in group if one[0] & ~free or one[1] < rows]
            groups[taken, fate[4], fate[5]] = [*left, (free, rows, fate, origin)]
    return [(taken | free & ~digit, ahead, unless | taken, free & digit, rows, fate, origin)
            for (taken, ahead, unless), group in groups.items() for free, rows, fate, origin in group]


def _with_one(best, letters, zone, top):
    """The states behind a zone with at most one row."""
    behind = {}
    for state, (rows, path) in best.items():
        for sure, ahead, unless, digit, more, fate, origin in letters:
            if state & ahead == ahead and state & unless == 0:
                left = (state | sure) + (digit if state < top else 0)
                if left not in behind or behind[left][0] > rows + more:
                    behind[left] = (rows + more, (path, zone, fate, origin))
    return behind


def _with_any(best, letters, zone, top, end):
    """The states behind the zone in which any rows may lie; those with more rows than end, if it comes, may lack."""
    behind = {state: best[state] for state in best}
    # The states by their numbers of rows.
    waiting = []
    for state, (rows, _) in best.items():
        _put_at(waiting, rows, [state])
    rows = 0
    while rows < len(waiting) and (end not in behind or behind[end][0] > rows):
        following = []
        for state in waiting[rows]:
            least, path = behind[state]
            if least < rows:
                continue
            for sure, ahead, unless, digit, more, fate, origin in letters:
                if state & ahead == ahead and state & unless == 0:
                    left = (state | sure) + (digit if state < top else 0)
                    if left not in behind or behind[left][0] > rows + more:
                        behind[left] = (rows + more, (path, zone, fate, origin))
                        following.append(left)
        _put_at(waiting, rows + 1, following)
        rows += 1
    return behind


def _put_at(waiting, rows, states):
    """Adds states to those with so many rows."""
    if len(states) > 0:
        while len(waiting) <= rows:
            waiting.append([])
        waiting[rows].extend(states)


def widest(node):
    """How many unlike numbers there can be at the end, if there is a greatest number; None if no rows come to it."""
    # From each state to the greatest number of unlike numbers with it.
    best = {0: 0}
    for zone, known in zip(node.zones, node.fates):
        letters = _letters(node, zone, known, False, node.digit)
        if zone.role != MIDDLE:
            best = _most_unlike_behind(best, list(best), letters, False)
            continue
        states = list(best)
        while states:
            behind = _most_unlike_behind(best, states, letters, True)
            states = [state for state in behind if behind[state] > best.get(state, -1)]
            for state in states:
                best[state] = behind[state]
    return best.get(node.needs)


def _most_unlike_behind(best, states, letters, many):
    """From each state behind one more row, with one of these states ahead of it, to the greatest number."""
    behind = {}
    for state in states:
        for sure, ahead, unless, digit, _, _, _ in letters:
            left = state | sure
            # Rows of which there can be any number are none of those that come to the end.
            if state & ahead == ahead and state & unless == 0 and not (many and left == state):
                behind[left] = max(behind.get(left, 0), int(best[state] + (1 if digit else 0)))
    return behind
