"""Weavings: dealings that home runs woven into one another, and whether they end as the copy does."""

from toldthere.courses import Course, Kit
from toldthere.errors import BadDealings, BadLevel, BadTrigger
from toldthere.hopes import PART, Goal
from toldthere.kinds import is_list
from toldthere.locks import LEVELS, Mark, has_to_wait
from toldthere.outcomes import KEPT
from toldthere.partings import parting_of
from toldthere.scripts import Script, are_triggers, is_statement
from toldthere.searches import Search
from toldthere.zones import kept_of

MOST_DEALINGS = 3


class Dealings:
    """One to three lists of statements, with the triggers here, at home, and there, at the copy; they never change."""

    def __init__(self, columns, dealings, *, here=(), there=()):
        if not is_list(dealings) or len(dealings) == 0:
            raise BadDealings(0)
        for index, thing in enumerate(dealings):
            if index == MOST_DEALINGS or not _is_dealing(columns, thing):
                raise BadDealings(index)
        if not are_triggers(columns, here):
            raise BadTrigger("here")
        if not are_triggers(columns, there):
            raise BadTrigger("there")
        self.columns = columns
        self.here = tuple(here)
        self.there = tuple(there)
        self._dealings = tuple([tuple(dealing) for dealing in dealings])

    def statements(self):
        """The list of the lists of the statements."""
        return [list(dealing) for dealing in self._dealings]

    def alone(self, d):
        """The script of the dealing with an index."""
        return Script(self.columns, self._dealings[d], here=self.here, there=self.there)

    def told(self, how):
        """The dealings whose statements are all told in another way."""
        dealings = [[statement.told(how) for statement in dealing] for dealing in self._dealings]
        return Dealings(self.columns, dealings, here=self.here, there=self.there)

    def __len__(self):
        return len(self._dealings)

    def __eq__(self, other):
        return (isinstance(other, Dealings) and self.columns == other.columns and self._dealings == other._dealings
                and self.here == other.here and self.there == other.there)


class Woven:
    """A weaving, and a run of it behind which home and copy are not alike."""

    def __init__(self, weaving, parting):
        self.weaving = tuple([tuple(event) for event in weaving])
        self.parting = parting


class Barring:
    """Tells which rows a statement would have to wait for, by the runs of a node."""

    def __init__(self, level):
        self.level = level

    def __call__(self, node, event, outcome):
        """A function that tells whether a row with a fate would have to wait; None if there is nothing to wait for."""
        if len(event.waits) == 0:
            return None
        steps = {index: node.course.step_at_home(index) for index in event.waits}

        def barred(zone, fate, place, behind):
            mine = _mark(event.step, zone, outcome.runs, place != KEPT, fate[0], behind[0])
            for index, step in steps.items():
                _, took, before, left, _ = kept_of(fate[2], index)
                if has_to_wait(self.level, mine, _mark(step, zone, node.ran[index], took, before, left)):
                    return True
            return False

        return barred


def weavings(dealings):
    """The list of all weavings, in the order of the lists of the indexes of the dealings in their events."""
    lengths = [len(statements) + 1 for statements in dealings.statements()]
    lists = [[]]
    for _ in range(sum(lengths)):
        lists = [[*ahead, d] for ahead in lists for d, length in enumerate(lengths) if ahead.count(d) < length]
    return [_events(ahead, lengths) for ahead in lists]


def woven(dealings, level):
    """A weaving that can happen at a level, behind which home and copy are not alike, None if there is none."""
    _check_level(level)
    statements = [statement for dealing in dealings.statements() for statement in dealing]
    kit = Kit(dealings.columns, statements, dealings.here, dealings.there)
    search = Search(Goal(PART), barring=Barring(level))
    for weaving, order, told, waits in _courses(dealings):
        search.add_all(Course(kit, statements, order, told, waits=waits, weaving=weaving))
    found = search.result()
    if found is None:
        return None
    return Woven(found.node.course.weaving, parting_of(found))


def least_level(dealings):
    """The first level at which home and copy are always alike, None if they are at none."""
    for level in LEVELS:
        if woven(dealings, level) is None:
            return level
    return None


def _is_dealing(columns, thing):
    return is_list(thing) and len(thing) > 0 and all([is_statement(columns, one) for one in thing])


def _check_level(level):
    if not isinstance(level, str) or level not in LEVELS:
        raise BadLevel(level)


def _events(ahead, lengths):
    """The weaving with these dealings, one event behind another."""
    events = []
    for place, d in enumerate(ahead):
        k = ahead[:place].count(d)
        events.append((d, None if k == lengths[d] - 1 else k))
    return tuple(events)


def _first_indexes(dealings):
    """For each dealing the index of its first statement among the statements of all."""
    firsts = []
    first = 0
    for statements in dealings.statements():
        firsts.append(first)
        first += len(statements)
    return firsts


def _mark(step, zone, runs, took, before, left):
    def finds(shape):
        asked, rank = step.facts(shape, zone.number)
        return asked or runs and rank >= 0

    return Mark(took, finds(before), before, left, finds)


def _courses(dealings):
    """The weavings of which others can happen only where one of these can, each with what makes its course."""
    firsts = _first_indexes(dealings)
    soonest = {}
    for weaving in weavings(dealings):
        order, told, waits = _course_of(weaving, firsts)
        # Of weavings that differ just in when dealings end, the one in which they end soonest bars least.
        count = sum([len(others) for others in waits.values()])
        key = (tuple(order), tuple(told))
        if key not in soonest or soonest[key][0] > count:
            soonest[key] = (count, (weaving, order, told, waits))
    return [course for _, course in soonest.values()]


def _course_of(weaving, firsts):
    """The indexes of the statements as home runs them and as the copy is told them, and which ones wait for which."""
    order = [firsts[d] + k for d, k in weaving if k is not None]
    ends = [d for d, k in weaving if k is None]
    told = [firsts[d] + k for end in ends for d, k in weaving if d == end and k is not None]
    waits = {}
    for place, (d, k) in enumerate(weaving):
        if k is not None:
            still_open = [other for other, at in weaving[place:] if at is None and other != d]
            waits[firsts[d] + k] = [firsts[other] + at for other, at in weaving[:place]
                                    if at is not None and other in still_open]
    return order, told, waits
