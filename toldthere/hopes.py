"""Hopes: whether a row can come to be as it is sought, if all other rows did whatever suits it."""

from toldthere.outcomes import KEPT
from toldthere.shapes import ABSENT
from toldthere.zones import MIDDLE, PLACE, fate_behind, told_as_rows

# What is sought: a table by which home and copy part; one at which the copy halts at a statement; one with so
# many unlike numbers at the end; one of whose rows any number can be unlike at the end.
PART = "part"
HALT = "halt"
WIDE = "wide"
ENDLESS = "endless"


class Goal:
    """What is sought: at least so many unlike numbers, or the index of a statement at which the copy halts."""

    def __init__(self, kind, *, least=1, index=None):
        self.kind = kind
        self.least = least
        self.index = index

    def lets_halt(self, index):
        """Whether runs in which the copy halts at a statement are sought."""
        return self.kind == PART or self.kind == HALT and self.index == index


class Hopes:
    """Tells of fates in a course whether they can lead to a goal."""

    def __init__(self, course, goal, is_calm=False):
        self.course = course
        self.goal = goal
        # Whether rows are never one of the first ones from here on; and the hopes for these rows.
        self._is_calm = is_calm or goal.kind == ENDLESS
        self.calm = self if self._is_calm else Hopes(course, goal, True)
        self._known = {}
        # Up to here the copy can halt, as far as one row can tell.
        self._open = 0
        for place, event in enumerate(course.events):
            mirrored = place > 0 and course.events[place - 1].mirrored
            if self._can_halt(event) and not mirrored:
                self._open = place + 1

    def of(self, place, zone, fate):
        """Whether a row with this fate, ahead of the event at a place, can come to be as it is sought."""
        key = (place, zone.number, zone.offset, fate[0], fate[1], fate[2])
        if key not in self._known:
            self._known[key] = self._of(place, zone, fate)
        return self._known[key]

    def takes_behind(self, place):
        """How many rows can be taken as one of the first ones by the events from a place on."""
        return sum([event.step.most or 0 for event in self.course.events[place:] if not event.as_rows])

    def _can_halt(self, event):
        return (not event.at_home and not event.as_rows and event.step.must and self.goal.lets_halt(event.index))

    def _of(self, place, zone, fate):
        if self.goal.kind == ENDLESS and zone.role != MIDDLE:
            return False
        if place < self._open:
            return True
        if place == len(self.course.events):
            return self.goal.kind != HALT and fate[0] != fate[1]
        event = self.course.events[place]
        if self._can_halt(event):
            # What home has done by this statement already hides how the tables were ahead of it.
            return True
        # Home was not refused: where the tables are alike, the copy cannot be refused by the same statement.
        if event.mirrored and self._can_halt(self.course.events[place + 1]) and fate[0] != fate[1]:
            return True
        if event.as_rows:
            return any([self.of(place + 1, zone, behind) for behind in told_as_rows(event, {fate: ABSENT})])
        return any([self.of(place + 1, zone, (*behind, 0, 0, 0)) for behind in self._behind(event, zone, fate)])

    def _behind(self, event, zone, fate):
        """All that a row can come to by an event."""
        step = event.step
        asked, rank = step.facts(fate[0 if event.at_home else 1], zone.number)
        listed = []
        for runs in (True, False):
            if step.wants is None and not runs or asked and runs != step.wants:
                continue
            if not runs:
                places = (KEPT,)
            elif step.puts:
                places = (0 if zone.role == PLACE and zone.offset == event.offset else KEPT,)
            elif rank < 0:
                places = (KEPT,)
            elif step.most is None:
                places = (0,)
            else:
                # A row of which there can be any number is never one of the first ones.
                places = [KEPT] if self._is_calm else [KEPT] + list(range(step.most))
            for place in places:
                listed.append(fate_behind(event, zone, fate, place))
        return listed
