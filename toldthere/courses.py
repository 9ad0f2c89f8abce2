"""Courses: which statements home runs, and which ones the copy runs behind them, one step after another."""

from toldthere.shapes import Shapes, named_words
from toldthere.steps import Signs, Step, needs_telling

# The signs behind those of the words that tables have at the beginning.
NEXT_SIGN = 2
# A statement may be told twice.
TIMES = 2


class Kit:
    """The compiled steps of some statements with the triggers of home and copy, each made once."""

    def __init__(self, columns, statements, here=(), there=()):
        triggers = [*here, *there]
        self.shapes = Shapes(columns, named_words(columns, statements, triggers))
        self.columns = columns
        self.here = here
        self.there = there
        self.greatest = _greatest_number(columns, statements, triggers)
        self._steps = {}

    def beside(self, here):
        """A kit for other statements, with other triggers of home, whose shapes have the same numbers."""
        kit = Kit(self.columns, [], here)
        kit.shapes = self.shapes
        kit.greatest = self.greatest
        return kit

    def home_step(self, index, statement, variant=0):
        """The step by which home runs a statement; a variant is a statement that stands for another one."""
        key = ("home", index, 0, variant, "")
        if key not in self._steps:
            self._steps[key] = Step(self.shapes, statement, self.here, _home_signs(index))
        return self._steps[key]

    def copy_step(self, index, statement, time, variant=0):
        """The step by which the copy runs a statement that it is told for the first (0) or second time."""
        key = ("copy", index, time, variant, statement.how)
        if key not in self._steps:
            own = NEXT_SIGN + 2 * (index * (TIMES + 1) + 1 + time)
            signs = Signs(own, own + 1)
            if statement.how == "values":
                signs = Signs(_home_signs(index).moment, own + 1, _home_signs(index).throw)
            self._steps[key] = Step(self.shapes, statement, self.there, signs)
        return self._steps[key]


class Event:
    """A step in its place: home or the copy runs the statement with an index."""

    def __init__(self, step, statement, index, at_home):
        self.step = step
        self.statement = statement
        self.index = index
        self.at_home = at_home
        # Whether the copy is told what became of the rows, instead of running the statement.
        self.as_rows = not at_home and statement.how == "rows"
        # How far behind the following number of the beginning the number stands that a Put draws.
        self.offset = None
        # Whether the fate of a row that is taken, or of any row, must be kept for later events.
        self.keeps = ""
        self.marks = False
        # The indexes of the statements that must not be kept any longer behind this event, and of those
        # of other dealings that are open.
        self.drops = ()
        self.waits = ()
        # Whether the copy runs this very statement next.
        self.mirrored = False


class Course:
    """The events of home and copy, in an order in which they can come."""

    def __init__(self, kit, statements, order, told, *, variants=None, waits=None, weaving=None):
        self.kit = kit
        self.weaving = weaving
        # Whether the copy is told each statement once and in the order of home.
        self.plain = order == told and waits is None
        self.events = _events(kit, statements, order, told, variants or {})
        self.home_follow, self.copy_follow = _draw_numbers(self.events)
        offsets = [event.offset for event in self.events if event.offset is not None]
        self.puts = max([int(offset) for offset in offsets], default=-1) + 1
        _mark_keeping(self.events, waits or {})
        self._home = {event.index: event.step for event in self.events if event.at_home}

    def step_at_home(self, index):
        """The step by which home runs the statement with an index."""
        return self._home[index]


def _home_signs(index):
    own = NEXT_SIGN + 2 * index * (TIMES + 1)
    return Signs(own, own + 1)


def _greatest_number(columns, statements, triggers):
    """The greatest number that a look names, 0 if none does."""
    looks = [trigger.look for trigger in triggers]
    for statement in statements:
        if statement.kind != "put":
            looks.append(statement.look)
        if statement.when is not None:
            looks.append(statement.when[1])
    return max([int(number) for look in looks for step in look.steps
                if step[0] == "in" and step[1] == len(columns) for number in step[2]], default=0)


def _events(kit, statements, order, told, variants):
    """The events: the copy runs each statement as soon as home has run it, and the copy those ahead of it."""
    events = []
    times = [0] * len(statements)
    following = 0
    for place, index in enumerate(order):
        variant = variants.get(index, 0)
        events.append(Event(kit.home_step(index, statements[index], variant), statements[index], index, True))
        while following < len(told) and told[following] in order[:place + 1]:
            next_index = told[following]
            step = kit.copy_step(next_index, statements[next_index], times[next_index], variants.get(next_index, 0))
            events.append(Event(step, statements[next_index], next_index, False))
            times[next_index] += 1
            following += 1
    return events


def _draw_numbers(events):
    """Tells the Puts which numbers they draw; returns how far home and copy have come at the end."""
    home, copy = 0, 0
    drawn, behind = {}, {}
    for event in events:
        how = event.statement.how
        if event.at_home:
            if event.step.puts:
                event.offset = drawn[event.index] = home
                home += 1
            behind[event.index] = home
        elif how == "rows":
            event.offset = drawn.get(event.index)
            copy = max(copy, int(behind[event.index]))
        elif event.step.puts:
            event.offset = copy if how == "words" else drawn[event.index]
            copy = max(copy, int(event.offset + 1))
    return home, copy


def _mark_keeping(events, waits):
    """Tells the events what must be kept of each row, and how long."""
    last = {}
    for place, event in enumerate(events):
        event.waits = tuple(waits.get(event.index, ())) if event.at_home else ()
        for index in event.waits:
            last[index] = place
        if not event.at_home and needs_telling(event.statement):
            last[event.index] = place
    marked = [index for event in events for index in event.waits]
    told = [event.index for event in events if not event.at_home]
    for place, event in enumerate(events):
        if event.at_home:
            event.keeps = needs_telling(event.statement) if event.index in told else ""
            event.marks = event.index in marked
            behind = events[place + 1:place + 2]
            event.mirrored = len(behind) == 1 and not behind[0].at_home and behind[0].index == event.index
        event.drops = tuple([index for index in last if last[index] == place])
