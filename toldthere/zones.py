"""Zones: the numbers of a table, and what the rows with these numbers can have come to in a course.

A zone is a number that looks name, or one that a Put draws, or all numbers between these. What a row can have
come to is a FATE: a tuple of the shapes that it has at home and at the copy, what must be kept of it for later
events, and three sets of digits: what it makes come true, what rows with lesser numbers must have made come true
ahead of it, and what they must not.
"""

from toldthere.outcomes import KEPT
from toldthere.shapes import ABSENT
from toldthere.steps import BEYOND, clamped

# At most one row has the number of a slot, any rows lie in the middle, and a Put draws the number of a place.
SLOT = "slot"
MIDDLE = "middle"
PLACE = "place"


class Zone:
    """One or more numbers, all alike to looks."""

    def __init__(self, role, number, offset=None):
        self.role = role
        self.number = number
        # How far the number of a place lies behind the following number of the beginning.
        self.offset = offset


def layouts(course):
    """All ways in which a table can lie to the numbers that looks name: for each one the list of its zones."""
    greatest = course.kit.greatest
    slots = [Zone(SLOT, number) for number in range(1, greatest + 1)]
    places = [Zone(PLACE, BEYOND, offset) for offset in range(course.puts)]
    listed = [[*slots, Zone(MIDDLE, BEYOND), *places]]
    if course.puts > 0:
        # The numbers that Puts draw may be such that looks name them.
        for following in range(1, greatest + 1):
            places = [Zone(PLACE, clamped(following + offset), offset) for offset in range(course.puts)]
            listed.append([*slots[:following - 1], *places])
    return listed


def first_fates(course, zones):
    """For each zone a dict from what its rows can have come to ahead of all events to their shapes then."""
    kinds = course.kit.shapes.kinds()
    shapes = {SLOT: [ABSENT, *kinds], MIDDLE: kinds, PLACE: [ABSENT]}
    return [fates_of(shapes[zone.role]) for zone in zones]


def fates_of(shapes):
    """The fates of rows with these shapes ahead of all events."""
    return {(shape, shape, (), 0, 0, 0): shape for shape in shapes}


def found_ranks(event, zones, fates):
    """The ascending list of the ranks of the rows that the step of an event can find."""
    step, side = event.step, 0 if event.at_home else 1
    ranks = {}
    for zone, known in zip(zones, fates):
        for fate in known:
            ranks[step.facts(fate[side], zone.number)[1]] = True
    return [rank for rank in range(step.ranks) if rank in ranks]


def kept_of(past, index):
    """What is kept of a row that the statement with an index took, None if it did not."""
    for kept in past:
        if kept[0] == index:
            return kept
    return None


def without_kept(past, drops):
    """What is kept, without some statements."""
    return tuple([kept for kept in past if kept[0] not in drops])


def told_as_rows(event, known):
    """What becomes of the fates of a zone when the copy is told what became of the rows."""
    spread = {}
    for fate, origin in known.items():
        here, there, past, sure, ahead, unless = fate
        kept = kept_of(past, event.index)
        if kept is not None and kept[1]:
            there = kept[3]
        if event.drops:
            past = without_kept(past, event.drops)
        _add(spread, (here, there, past, sure, ahead, unless), origin)
    return spread


def spread_fates(event, outcome, zone, known, barred):
    """What becomes of the fates of a zone by an outcome of the step of an event.

    barred tells whether a row would have to wait for an open dealing; None if no dealings are woven.
    """
    step, side = event.step, 0 if event.at_home else 1
    here_put = step.puts and zone.role == PLACE and zone.offset == event.offset and outcome.runs
    spread = {}
    for fate, origin in known.items():
        asked, rank = step.facts(fate[side], zone.number)
        sure = fate[3]
        if asked and outcome.some is not None:
            if not outcome.some:
                continue
            sure = sure | outcome.mark
        if here_put:
            options = ((0, 0, 0, 0),)
        elif rank < 0 or not outcome.runs:
            options = ((KEPT, 0, 0, 0),)
        else:
            options = outcome.options[rank]
        for place, true, before, never in options:
            behind = fate_behind(event, zone, fate, place)
            ahead, unless = fate[4] | before, fate[5] | never
            if ahead & unless == 0 and (barred is None or not barred(zone, fate, place, behind)):
                _add(spread, (*behind, sure | true, ahead, unless), origin)
    return spread


def _add(spread, fate, origin):
    """Adds a fate; if no row at all can have it as well, none is needed for it."""
    if fate not in spread or origin == ABSENT:
        spread[fate] = origin


def fate_behind(event, zone, fate, place):
    """The shapes and what is kept of a row that is taken at a place, or kept."""
    step, past, shape = event.step, fate[2], fate[0 if event.at_home else 1]
    left = shape
    if place != KEPT:
        told = False
        if not event.at_home and past:
            kept = kept_of(past, event.index)
            told = kept is not None and kept[4]
        left = step.put(zone.number) if step.puts else step.left(shape, zone.number, place, told)
    # What is kept: of which statement, whether it took the row, the row ahead of it, as it was left, and the throw.
    if event.at_home and (event.marks or event.keeps and place != KEPT):
        threw = place != KEPT and step.throws_at(place)
        past = (*past, (event.index, place != KEPT, shape, left, threw))
    if event.drops:
        past = without_kept(past, event.drops)
    return (left, fate[1], past) if event.at_home else (fate[0], left, past)
