"""Spreads: in how many numbers home and copy can be unlike."""

from toldthere.hopes import ENDLESS, WIDE, Goal
from toldthere.proofs import proofs_of


def spread(plan):
    """In how many numbers the tables can be unlike at the end, at most; None if there is no greatest number."""
    proofs = proofs_of(plan)
    if proofs.find(0, len(plan), Goal(ENDLESS)) is not None:
        return None
    most = 0
    found = proofs.find(0, len(plan), Goal(WIDE, least=1))
    while found is not None:
        most = len([fate for _, fate, _ in found.path if fate[0] != fate[1]])
        found = proofs.find(0, len(plan), Goal(WIDE, least=most + 1))
    return most
