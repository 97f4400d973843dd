"""Whether one row comes to another, with a walk or with a paper."""

from wordwishes.arcs import drawing_of, why_not
from wordwishes.signs import right_wish


def cancels_by(arcs, many):
    """The cancels of the arcs within the first so many signs."""
    left = list(range(many))
    walk = []
    # What lies within an arc ends ahead of it, and so goes out first.
    for begin, end in sorted(arcs, key=lambda arc: arc[1]):
        if end < many:
            place = left.index(begin)
            walk.append(("cancel", place))
            del left[place : place + 2]
    return walk


def orders_by(strands, one, other):
    """The orders by which the signs that stay become those of the other row."""
    return [
        ("order", place, other[at][0])
        for place, (begin, at) in enumerate(strands)
        if one[begin][0] != other[at][0]
    ]


def growths_by(strands, pairs, other):
    """The growths of these pairs of signs of the other row, between those that are there already."""
    there = [at for begin, at in strands]
    walk = []
    # What lies within a pair begins behind it, and so grows later.
    for left, right in sorted(pairs):
        place = len([at for at in there if at < left])
        walk.append(("grow", place, other[left], other[right]))
        there.extend([left, right])
    return walk


def walk_by(arcs, one, other):
    """The walk from the one row to the other that a drawing tells, of the one with the other's right wish."""
    many = len(one)
    # The last sign of the wish is that of the other row's first sign.
    last = many + len(other) - 1
    strands = [(begin, last - end) for begin, end in arcs if begin < many <= end]
    pairs = [(last - end, last - begin) for begin, end in arcs if many <= begin]
    return tuple(cancels_by(arcs, many) + orders_by(strands, one, other) + growths_by(strands, pairs, other))


def comes(order, one, other):
    """("comes", walk), or ("none", paper) for the one row with the other's right wish behind it."""
    together = one + right_wish(other)
    arcs = drawing_of(order, together)
    if arcs is None:
        return ("none", why_not(order, together))
    return ("comes", walk_by(arcs, one, other))
