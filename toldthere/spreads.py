"""Spreads: in how many numbers home and copy can be unlike."""

from toldthere.covers import least_rows, widest
from toldthere.hopes import ENDLESS, WIDE, Goal, Hopes
from toldthere.nodes import Node, nodes_behind
from toldthere.proofs import proofs_of
from toldthere.searches import is_healed
from toldthere.zones import first_fates, layouts


def spread(plan):
    """In how many numbers the tables can be unlike at the end, at most; None if there is no greatest number."""
    proofs = proofs_of(plan)
    if proofs.find(0, len(plan), Goal(ENDLESS)) is not None:
        return None
    course = proofs.stretch(0, len(plan))
    hopes = Hopes(course, Goal(WIDE))
    waiting = [Node(course, zones, first_fates(course, zones)) for zones in layouts(course)]
    most = 0
    while waiting:
        node = waiting.pop()
        if least_rows(node, hopes, most + 1) is None or _is_healed(node, proofs, len(plan)):
            continue
        if node.is_ended():
            most = max(most, int(widest(node) or 0))
        else:
            waiting.extend(nodes_behind(node, False, False))
    return most


def _is_healed(node, proofs, length):
    return is_healed(node) and proofs.is_steady(node.place // 2, length)
