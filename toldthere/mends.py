"""Mends: the fewest words that have to be added to a script so that the copy stays as home."""

from toldthere.courses import Kit
from toldthere.hopes import PART, Goal
from toldthere.proofs import Proofs
from toldthere.runs import has_source
from toldthere.searches import Search
from toldthere.shapes import ABSENT
from toldthere.zones import MIDDLE, PLACE, SLOT, Zone, fates_of


def mends(plan):
    """The fewest pairs of an index and of a word with which a script is steady, the least of several such lists."""
    mender = Mender(plan)
    pairs = _pairs(plan)
    for count in range(len(plan) + 1):
        for chosen in _choices(pairs, count):
            if mender.is_mended_by(chosen):
                return chosen
    # All statements told as their rows are always enough; this line is never reached.
    return pairs


class Mender:
    """Tries lists of pairs; each table by which one fails is kept, since it is likely that others fail by it too."""

    def __init__(self, plan):
        self._statements = plan.statements()
        self._numbered = [statement.by_number() for statement in self._statements]
        self._kit = Kit(plan.columns, self._statements, plan.here, plan.there)
        self._known = {}
        self._tables = []

    def is_mended_by(self, chosen):
        """Whether the script is steady with these pairs."""
        statements, variants = list(self._statements), {}
        for index, word in chosen:
            if word == "number":
                statements[index] = self._numbered[index].told(statements[index].how)
                variants[index] = 1
            else:
                statements[index] = statements[index].told(word)
        proofs = Proofs(self._kit, statements, variants, self._known)
        place = self._place_of_failure(proofs.stretch(0, len(statements)))
        if place < len(self._tables):
            # The tables that tell most lie ahead.
            self._tables = [self._tables[place], *self._tables[:place], *self._tables[place + 1:]]
            return False
        found = proofs.find(0, len(statements), Goal(PART))
        if found is not None:
            self._tables = [found, *self._tables]
        return found is None

    def _place_of_failure(self, course):
        """The place of the first table that is kept by which a course can part; behind them all, if there is none."""
        place = 0
        while place < len(self._tables) and not _parts_by(course, self._tables[place]):
            place += 1
        return place


def _pairs(plan):
    """All pairs that can be added to a script, in their order."""
    pairs = []
    for index, statement in enumerate(plan.statements()):
        if statement.by_number() != statement:
            pairs.append((index, "number"))
        if statement.how != "rows":
            pairs.append((index, "rows"))
        if statement.how == "words" and (has_source(statement, "moment") or has_source(statement, "throw")):
            pairs.append((index, "values"))
    return pairs


def _choices(pairs, count):
    """All lists of so many of these pairs that may stand side by side, in the order of lists."""
    lists = [([], 0)]
    for _ in range(count):
        lists = [([*chosen, pairs[place]], place + 1) for chosen, first in lists
                 for place in range(first, len(pairs)) if _may_stand(chosen, pairs[place])]
    return [chosen for chosen, _ in lists]


def _may_stand(chosen, pair):
    """Whether a pair may stand beside those of lesser indexes or words: what is told as its rows needs no other."""
    return len([other for other in chosen if other[0] == pair[0] and "rows" in (other[1], pair[1])]) == 0


def _parts_by(course, found):
    """Whether home and copy can part from the very table by which another script was found to part."""
    zones, fates = [], []
    for zone, _, origin in found.path:
        if zone.role == PLACE:
            continue
        role = SLOT if zone.role == MIDDLE else zone.role
        zones.append(Zone(role, zone.number))
        fates.append(fates_of([origin]))
    for zone in found.node.zones:
        if zone.role == PLACE:
            zones.append(zone)
            fates.append(fates_of([ABSENT]))
    search = Search(Goal(PART))
    search.add(course, zones, fates)
    return search.result() is not None
