"""Machines: the nodes at the end of a course of home alone, as machines that go through the rows one by one.

A LETTER is a pair of the shape of a row at the beginning and of the one at the end.
"""

from toldthere.nodes import Node, nodes_behind
from toldthere.zones import PLACE, first_fates


class Machines:
    """All ways in which the statements of home can end, by one way in which tables lie to the numbers."""

    def __init__(self, course, zones):
        self.nodes = _ends(course, zones)
        # For each node and each zone a dict from letters to lists of triples of digits.
        self._letters = [[_letters(known) for known in node.fates] for node in self.nodes]
        # Configurations have numbers, and sets of them are told by binary digits.
        self._known = []
        self._numbers = {}
        self._ending = 0
        self._all_behind = {}

    def beginning(self):
        """The configurations ahead of all rows."""
        return self._set([(machine, 0) for machine in range(len(self.nodes))])

    def behind(self, machine, zone, true):
        """All letters that a row of a zone can have, with the digits that are true behind it."""
        listed = []
        for letter, triples in self._letters[machine][zone].items():
            for digits in self._true_behind(machine, true, triples):
                listed.append((letter, digits))
        return listed

    def all_behind(self, configurations, zone, letter):
        """The configurations behind a row with a letter."""
        key = (configurations, zone, letter)
        if key not in self._all_behind:
            behind = []
            for machine, true in self._members(configurations):
                triples = self._letters[machine][zone].get(letter, ())
                for digits in self._true_behind(machine, true, triples):
                    behind.append((machine, digits))
            self._all_behind[key] = self._set(behind)
        return self._all_behind[key]

    def can_end(self, configurations):
        """Whether all has come true by one of the configurations."""
        return configurations & self._ending != 0

    def likes(self, others, machine):
        """The list of the machines that are like one of others, to the digits."""
        node, letters = others.nodes[machine], others._letters[machine]
        return [place for place, own in enumerate(self.nodes)
                if own.needs == node.needs and own.single == node.single and self._letters[place] == letters]

    def has_any(self, configurations, machines, true):
        """Whether one of these machines is among the configurations with these digits."""
        numbers = [self._numbers[machine, true] for machine in machines if (machine, true) in self._numbers]
        return any([configurations >> number & 1 == 1 for number in numbers])

    def _members(self, configurations):
        members = []
        number = 0
        while configurations >> number:
            if configurations >> number & 1:
                members.append(self._known[number])
            number += 1
        return members

    def _set(self, members):
        configurations = 0
        for member in members:
            if member not in self._numbers:
                self._numbers[member] = len(self._known)
                if member[1] == self.nodes[member[0]].needs:
                    self._ending = self._ending | 1 << len(self._known)
                self._known.append(member)
            configurations = configurations | 1 << self._numbers[member]
        return configurations

    def _true_behind(self, machine, true, triples):
        single = self.nodes[machine].single
        behind = {}
        for sure, ahead, unless in triples:
            if true & ahead == ahead and true & unless == 0 and true & sure & single == 0:
                behind[true | sure] = True
        return list(behind)


def _ends(course, zones):
    """All nodes at the end of a course of home that rows may be able to reach."""
    waiting = [Node(course, zones, first_fates(course, zones))]
    ended = []
    while waiting:
        node = waiting.pop()
        if not _can_be(node):
            continue
        if node.is_ended():
            ended.append(node)
        else:
            waiting.extend(nodes_behind(node, False, False))
    return ended


def _can_be(node):
    """Whether each digit that has to come true does by some row, and each place can be put or not."""
    union = 0
    for zone, known in zip(node.zones, node.fates):
        if zone.role == PLACE and len(known) == 0:
            return False
        for fate in known:
            union = union | fate[3]
    return node.needs & ~union == 0


def _letters(known):
    # The copy is told nothing, so that it still has the row of the beginning.
    letters = {}
    for left, origin, _, sure, ahead, unless in known:
        letters.setdefault((origin, left), []).append((sure, ahead, unless))
    return letters
