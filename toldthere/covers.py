"""Covers: how few rows make come true all that a node asks for."""

from toldthere.nodes import HOPE
from toldthere.shapes import ABSENT
from toldthere.zones import MIDDLE, PLACE


def least_rows(node, hopes, sought):
    """A number of rows that a node surely needs, None if it asks for what no rows can be."""
    needs = node.needs | (HOPE if sought else 0)
    free, union = 0, 0
    masks = {}
    for zone, known in zip(node.zones, node.fates):
        if len(known) == 0 and zone.role == PLACE:
            return None
        for fate in known:
            sure = fate[3]
            if sought and hopes.of(node.place, zone, fate):
                sure = sure | HOPE
            union = union | sure
            if zone.role == PLACE:
                free = free | sure
            else:
                masks[sure] = True
    if needs & ~union:
        return None
    rest = needs & ~free
    if sought > 1:
        count = _most_unlike(node, hopes, sought)
        if count < sought:
            return None
        places = len([zone for zone in node.zones if zone.role == PLACE])
        return max(int(sought - places), _fewest(masks, rest, node.single))
    return _fewest(masks, rest, node.single)


def _fewest(masks, rest, single):
    """Whether none, one, two or more rows are needed for the rest."""
    if rest == 0:
        return 0
    parts = {mask & (rest | single): True for mask in masks}
    if any([rest & ~part == 0 for part in parts]):
        return 1
    listed = list(parts)
    for place, one in enumerate(listed):
        lacking = rest & ~one
        barred = one & single
        for other in listed[place + 1:]:
            if lacking & ~other == 0 and other & barred == 0:
                return 2
    return 3


def _most_unlike(node, hopes, sought):
    """At least as many numbers as can be unlike at the end, as far as single rows can tell; sought if no fewer."""
    count = 0
    taken = 0
    for zone, known in zip(node.zones, node.fates):
        hoping = [fate for fate in known if hopes.of(node.place, zone, fate)]
        if zone.role != MIDDLE:
            count += 1 if hoping else 0
            continue
        for fate in hoping:
            if fate[3] & node.single == 0:
                # It can be taken later on, or there may be any number of such rows.
                return sought
            taken = taken | fate[3] & node.single
    while taken:
        taken = taken & (taken - 1)
        count += 1
    return count


def cheapest(node, sought, endless):
    """As few rows as possible by which all comes true: a list of zones, fates and first shapes, None if none do."""
    layers = [{(0, 0): None}]
    for zone, known in zip(node.zones, node.fates):
        letters = _letters(node, zone, known, endless)
        if zone.role == MIDDLE:
            layers = _with_any(layers, letters, zone, node, sought)
        else:
            layers = _with_one(layers, letters, zone, node, sought)
    for layer in layers:
        if (node.needs, sought) in layer:
            rows = []
            path = layer[node.needs, sought]
            while path is not None:
                path, *row = path
                rows.append(tuple(row))
            return rows[::-1]
    return None


def _letters(node, zone, known, endless):
    """The fates of a zone that differ in what matters at the end, each once."""
    letters = {}
    for fate, origin in known.items():
        unlike = fate[0] != fate[1]
        if endless:
            # There can be any number only of such rows as are never taken as one of the first.
            unlike = unlike and zone.role == MIDDLE and fate[3] & node.single == 0
        letter = (fate[3], fate[4], fate[5], unlike)
        if letter not in letters or origin == ABSENT:
            letters[letter] = (fate, origin)
    return [(*letter, fate, origin) for letter, (fate, origin) in letters.items()]


def _with_one(layers, letters, zone, node, sought):
    """The states behind a zone with at most one row, by the number of rows ahead."""
    behind = [{} for _ in range(len(layers) + 1)]
    for rows, layer in enumerate(layers):
        for state in layer:
            for letter in letters:
                left = _state_behind(state, letter, node.single, sought)
                if left is not None:
                    # A row that Puts may put, and no row at all, are none of the table at the beginning.
                    more = rows + (1 if letter[5] != ABSENT else 0)
                    if left not in behind[more]:
                        behind[more][left] = (layer[state], zone, letter[4], letter[5])
    return behind


def _with_any(layers, letters, zone, node, sought):
    """The states behind the zone in which any rows may lie."""
    seen = {}
    behind = []
    rows = 0
    while rows < len(layers) or rows < len(behind):
        layer = {} if rows >= len(behind) else behind[rows]
        if rows >= len(behind):
            behind.append(layer)
        if rows < len(layers):
            for state in layers[rows]:
                layer.setdefault(state, layers[rows][state])
        following = {}
        for state in list(layer):
            if state in seen:
                del layer[state]
                continue
            seen[state] = True
            for letter in letters:
                left = _state_behind(state, letter, node.single, sought)
                if left is not None and left not in seen and left not in following:
                    following[left] = (layer[state], zone, letter[4], letter[5])
        if following:
            behind.append(following)
        rows += 1
    return behind


def _state_behind(state, letter, single, sought):
    """What has come true, and how many unlike numbers there are, behind one more row; None if it cannot be."""
    true, count = state
    sure, ahead, unless, unlike = letter[:4]
    if true & ahead != ahead or true & unless or true & sure & single:
        return None
    return true | sure, min(int(sought), count + 1) if unlike else count
