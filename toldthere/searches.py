"""Searches: the smallest table, of all tables, by which a course can come to a goal."""

from toldthere.covers import cheapest, least_rows
from toldthere.hopes import ENDLESS, HALT, PART, Hopes
from toldthere.nodes import Node, nodes_behind
from toldthere.shapes import ABSENT
from toldthere.zones import first_fates, layouts


class Found:
    """A way to come to the goal: a node at the end, and for each row, by ascending numbers, where it lies.

    This is a triple of its zone, of its fate, and of its shape at the beginning.
    """

    def __init__(self, node, path):
        self.node = node
        self.path = path


class Search:
    """Looks for the smallest table, in steps: those nodes ahead that can need the fewest rows."""

    def __init__(self, goal, is_steady_behind=None, barring=None):
        self.goal = goal
        self.is_steady_behind = is_steady_behind
        self.barring = barring
        # Lists of nodes, and of what was found, by the number of rows that they need at least.
        self._waiting = []
        self._least = 0

    def add(self, course, zones, fates):
        """Adds a beginning."""
        self._add(Node(course, zones, fates), Hopes(course, self.goal))

    def add_all(self, course):
        """Adds all beginnings of a course."""
        hopes = Hopes(course, self.goal)
        for zones in layouts(course):
            self._add(Node(course, zones, first_fates(course, zones)), hopes)

    def result(self):
        """What is found with as few rows as possible, None if there is nothing."""
        while self._least < len(self._waiting):
            if len(self._waiting[self._least]) == 0:
                self._least += 1
                continue
            node, hopes, found = self._waiting[self._least].pop()
            if found is not None:
                return found
            if node.is_ended():
                self._finish(node, hopes)
            else:
                self._go_on(node, hopes)
        return None

    def _put(self, least, thing):
        # What comes behind a node needs as many rows as the node itself, also where less is clear of it.
        least = max(int(least), self._least)
        while len(self._waiting) <= least:
            self._waiting.append([])
        self._waiting[least].append(thing)

    def _add(self, node, hopes):
        """Keeps a node, unless it is clear that it leads nowhere."""
        if self._is_healed(node):
            return
        least = least_rows(node, hopes, self._unlike_sought(node))
        if least is not None:
            self._put(least, (node, hopes, None))

    def _unlike_sought(self, node):
        """How many unlike numbers the goal asks for."""
        if node.halted is not None:
            return 0
        if self.goal.kind == PART and node.course.home_follow != node.course.copy_follow:
            return 0
        return self.goal.least

    def _is_healed(self, node):
        """Whether home and copy are alike, and stay so."""
        is_steady_behind = self.is_steady_behind
        return is_steady_behind is not None and is_healed(node) and is_steady_behind(node.place // 2)

    def _finish(self, node, hopes):
        rows = cheapest(node, self._unlike_sought(node), self.goal.kind == ENDLESS)
        if rows is not None:
            count = len([zone for zone, fate, origin in rows if origin != ABSENT])
            self._put(count, (node, hopes, Found(node, rows)))

    def _go_on(self, node, hopes):
        event = node.course.events[node.place]
        can_halt = not event.at_home and self.goal.lets_halt(event.index)
        for behind in nodes_behind(node, can_halt, can_halt and self.goal.kind == HALT, self.barring):
            self._add(behind, hopes)


def is_healed(node):
    """Whether home and copy are surely alike behind a statement that both have run."""
    if not node.course.plain or node.place % 2 == 1 or node.place == 0 or node.halted is not None:
        return False
    return all([fate[0] == fate[1] and len(fate[2]) == 0 for known in node.fates for fate in known])
