"""Nodes: all tables by which the events of a course, up to a place, end in the same ways.

The ways tell which guards have found a row, and of which ranks the rows are that were taken. Each way asks for some
rows, each once or at least once, and bars others; so the fates that rows can have by it tell how many rows it needs
at least, and whether it needs any that cannot be.
"""

from toldthere.outcomes import outcomes
from toldthere.trims import trimmed
from toldthere.zones import found_ranks, spread_fates, told_as_rows

# What has to come true is told by binary digits. The first one stands for: some row is as it is sought.
HOPE = 1
FIRST_DIGIT = 2


class Node:
    """A place in a course, with the fates that rows can have there."""

    def __init__(self, course, zones, fates):
        self.course = course
        self.zones = zones
        self.fates = fates
        self.place = 0
        # The digits that have to come true by some row, and those of them that do by just one.
        self.needs = 0
        self.single = 0
        self.digit = FIRST_DIGIT
        # Triples of a digit, of the place of an event and of the place at which the row is taken there.
        self.takes = ()
        self.halted = None
        # For each event of home that is over whether its statement was run, by the index of the statement.
        self.ran = {}

    def behind(self, fates, outcome):
        """The node behind the next event, with these fates."""
        node = Node(self.course, self.zones, fates)
        event = self.course.events[self.place]
        node.place = self.place + 1
        node.needs, node.single, node.digit = self.needs, self.single, self.digit
        node.takes, node.halted, node.ran = self.takes, self.halted, self.ran
        if outcome is not None:
            node.needs = self.needs | outcome.needs
            while node.digit <= outcome.needs:
                node.digit = node.digit << 1
            for digit, place in outcome.takes:
                node.single = node.single | digit
                node.takes = (*node.takes, (digit, self.place, place))
            if outcome.halts:
                node.halted = event.index
            if event.at_home:
                node.ran = {**self.ran, event.index: outcome.runs}
        return node

    def is_ended(self):
        """Whether all events are over."""
        return self.place == len(self.course.events)


def nodes_behind(node, can_halt, must_halt, barring=None):
    """All nodes behind the next event of a node.

    can_halt and must_halt tell whether runs in which the copy halts there are sought, and whether no others are;
    barring tells which rows would have to wait, if dealings are woven.
    """
    event = node.course.events[node.place]
    if node.halted is not None and not event.at_home:
        return [node.behind(node.fates, None)]
    if event.as_rows:
        return [node.behind([told_as_rows(event, known) for known in node.fates], None)]
    ranks = found_ranks(event, node.zones, node.fates)
    listed = []
    for outcome in outcomes(event.step, ranks, node.digit, event.at_home, can_halt, must_halt):
        barred = None
        if event.at_home and barring is not None:
            barred = barring(node, event, outcome)
        fates = [spread_fates(event, outcome, zone, known, barred) for zone, known in zip(node.zones, node.fates)]
        behind = node.behind(fates, outcome)
        if event.step.most is not None:
            behind.fates = trimmed(behind)
        listed.append(behind)
    return listed
