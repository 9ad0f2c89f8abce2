"""Inclusions: the smallest table of which home can make by one script what it cannot make by another one.

Rows are added one by one, each with what the one script makes of it. Beside this all CONFIGURATIONS are kept, ways
in which the other script can have made the same of the same rows: a node at its end and the digits that have come
true so far. If none of them can be ended, the other script cannot make this table.
"""

from toldthere.courses import Course
from toldthere.machines import Machines
from toldthere.shapes import ABSENT
from toldthere.tables import Table
from toldthere.tellings import Words
from toldthere.zones import MIDDLE, PLACE, SLOT, layouts


class State:
    """Rows so far: the machine of the one script and its digits, and the configurations of the other one."""

    def __init__(self, side, machine, zone, true, others, path):
        self.side = side
        self.machine = machine
        # The place of the zone in which the next row lies.
        self.zone = zone
        self.true = true
        self.others = others
        # The rows so far, the last one ahead: a triple of a zone, its letter and the path ahead of it.
        self.path = path


class Side:
    """Two scripts and a way in which tables lie to the numbers that looks name."""

    def __init__(self, kit, zones, own, others, is_first):
        self.kit = kit
        self.zones = zones
        self.own = own
        self.others = others
        self.is_first = is_first
        # For each machine of the one script the list of those of the other one that do the same.
        self.alike = [[] if others is None else others.likes(own, machine) for machine in range(len(own.nodes))]
        # Lists of configurations that have been met, by all that a state has beside them.
        self.met = {}

    def is_met(self, state):
        """Whether a state has been met from which all can be reached that can be reached from this one."""
        met = self.met.setdefault((state.machine, state.zone, state.true), [])
        # Binary digits tell which configurations there are: fewer ones let more tables be made by one script alone.
        if any([known & ~state.others == 0 for known in met]):
            return True
        met.append(state.others)
        return False


class Inclusion:
    """Looks for a smallest table, ahead of all for those with few rows."""

    def __init__(self):
        self._waiting = [[]]

    def add(self, kit, statements, other_kit, other_statements, is_first):
        """Adds that the one script makes of a table what the other one does not."""
        order, other_order = list(range(len(statements))), list(range(len(other_statements)))
        course = Course(kit, statements, order, [])
        other_course = Course(other_kit, other_statements, other_order, [])
        for zones in layouts(course):
            own = Machines(course, zones)
            others = None
            # With unlike following numbers no tables are alike.
            if course.puts == other_course.puts:
                others = Machines(other_course, zones)
            side = Side(kit, zones, own, others, is_first)
            beginning = 0 if others is None else others.beginning()
            for machine in range(len(own.nodes)):
                self._add(0, State(side, machine, 0, 0, beginning, None))

    def result(self):
        """A table, an ending and whether the first script has it, None if there is none."""
        rows = 0
        while rows < len(self._waiting):
            if len(self._waiting[rows]) == 0:
                rows += 1
                continue
            state = self._waiting[rows].pop()
            if state.zone == len(state.side.zones):
                return _told(state)
            if not state.side.is_met(state):
                self._go_on(rows, state)
        return None

    def _add(self, rows, state):
        side = state.side
        # What does the same as the one script can go on with it.
        if side.others is not None and side.others.has_any(state.others, side.alike[state.machine], state.true):
            return
        if state.zone == len(side.zones):
            if state.true != side.own.nodes[state.machine].needs:
                return
            if side.others is not None and side.others.can_end(state.others):
                return
        while len(self._waiting) <= rows:
            self._waiting.append([])
        self._waiting[rows].append(state)

    def _go_on(self, rows, state):
        """Adds the states behind one more row."""
        side = state.side
        zone = side.zones[state.zone]
        if zone.role == MIDDLE:
            self._add(rows, State(side, state.machine, state.zone + 1, state.true, state.others, state.path))
        for letter, true in side.own.behind(state.machine, state.zone, state.true):
            others = state.others
            if side.others is not None:
                others = side.others.all_behind(state.others, state.zone, letter)
            if zone.role == MIDDLE and true == state.true and others == state.others:
                continue
            following = state.zone if zone.role == MIDDLE else state.zone + 1
            more = 0 if letter[0] == ABSENT else 1
            path = (zone, letter, state.path)
            self._add(rows + more, State(side, state.machine, following, true, others, path))


def _told(state):
    """The table at the beginning, that at the end, and whether the first script makes it."""
    path = []
    while state.path is not None:
        zone, letter, ahead = state.path
        path.append((zone, letter))
        state = State(state.side, state.machine, state.zone, state.true, state.others, ahead)
    kit, zones = state.side.kit, state.side.zones
    free = kit.greatest + 1
    following = len([zone for zone in zones if zone.role == SLOT]) + 1
    placed = []
    for zone, (origin, left) in path[::-1]:
        number = zone.number
        if zone.role == MIDDLE:
            number, free = free, free + 1
            following = free
        placed.append((number, zone, origin, left))
    words = Words(kit.columns, kit.shapes.named)
    start, end = {}, {}
    for number, zone, origin, left in placed:
        number = following + zone.offset if zone.role == PLACE else number
        known = {}
        for rows, shape in ((start, origin), (end, left)):
            if shape != ABSENT:
                rows[number] = [_word(cell, known, words) for cell in kit.shapes.cells(shape)]
    puts = len([zone for zone in zones if zone.role == PLACE])
    return (Table(kit.columns, start, following=following),
            Table(kit.columns, end, following=following + puts), state.side.is_first)


def _word(cell, known, words):
    if isinstance(cell, str):
        return cell
    if cell not in known:
        known[cell] = words.next_word()
    return known[cell]
