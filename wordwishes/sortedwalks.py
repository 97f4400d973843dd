"""Walks told anew, cancels first, then orders, growths last."""

from wordwishes.comings import comes
from wordwishes.walks import gone


def sorted_walk(order, row, walk):
    """Another walk between the same rows, so sorted; NoStep where a step can't be gone."""
    # Where a walk leads from row to row, the one comes to the other, and that walk is sorted.
    return comes(order, row, gone(order, row, walk))[1]
