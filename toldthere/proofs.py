"""Proofs: what is found, or surely not to be found, of the statements of a script from one to another."""

from toldthere.courses import Course, Kit
from toldthere.hopes import PART, Goal
from toldthere.searches import Search


class Proofs:
    """Searches in parts of a script that home and copy run side by side; what is steady is asked just once.

    variants tells of statements that stand for others of the kit; known may be shared by all proofs of a kit.
    """

    def __init__(self, kit, statements, variants=None, known=None):
        self.kit = kit
        self._statements = statements
        self.variants = {} if variants is None else variants
        self._known = {} if known is None else known

    def stretch(self, first, behind):
        """The course of the statements from an index to ahead of another one."""
        order = list(range(first, behind))
        return Course(self.kit, self._statements, order, order, variants=self.variants)

    def find(self, first, behind, goal):
        """What is found by a search in a part of the script."""
        search = Search(goal, lambda place: self.is_steady(first + place, behind))
        search.add_all(self.stretch(first, behind))
        return search.result()

    def is_steady(self, first, behind):
        """Whether a part of the script never parts home and copy."""
        if first == behind:
            return True
        key = (first, *[(self.variants.get(index, 0), self._statements[index].how) for index in range(first, behind)])
        if key not in self._known:
            self._known[key] = self.find(first, behind, Goal(PART)) is None
        return self._known[key]


def proofs_of(plan):
    """The proofs for a script."""
    kit = Kit(plan.columns, plan.statements(), plan.here, plan.there)
    return Proofs(kit, plan.statements())
