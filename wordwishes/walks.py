"""Steps and walks from row to row."""

from wordwishes.errors import NoStep
from wordwishes.marks import is_mark
from wordwishes.signs import cancel, is_sign, leads, may_grow
from wordwishes.things import is_tuple_called, is_whole


def is_place(thing, most):
    """Whether the thing is a place from 0 to the greatest one."""
    return is_whole(thing) and 0 <= thing <= most


def by_cancel(order, signs, place):
    """As by_step, of ("cancel", place)."""
    if is_place(place, len(signs) - 2) and cancel(order, signs[place], signs[place + 1]):
        return (place, place + 2, [])
    return None


def by_order(order, signs, place, mark):
    """As by_step, of ("order", place, mark)."""
    if not is_place(place, len(signs) - 1) or not is_mark(mark):
        return None
    sign = (mark, signs[place][1])
    return (place, place + 1, [sign]) if leads(order, signs[place], sign) else None


def by_grow(order, signs, place, one, other):
    """As by_step, of ("grow", place, one, other)."""
    if is_place(place, len(signs)) and is_sign(one) and is_sign(other) and may_grow(order, one, other):
        return (place, place, [one, other])
    return None


def by_step(order, signs, step):
    """Which stretch gives way to which signs, as (begin, end, put), or None where the step can't be gone."""
    if is_tuple_called(step, "cancel", 2):
        return by_cancel(order, signs, step[1])
    if is_tuple_called(step, "order", 3):
        return by_order(order, signs, step[1], step[2])
    if is_tuple_called(step, "grow", 4):
        return by_grow(order, signs, step[1], step[2], step[3])
    return None


def gone(order, row, walk):
    """The row to which the walk leads; NoStep where a step can't be gone."""
    signs = list(row)
    for number, step in enumerate(walk):
        change = by_step(order, signs, step)
        if change is None:
            raise NoStep(number)
        begin, end, put = change
        signs[begin:end] = put
    return tuple(signs)


def cancels_in(order, row):
    """The places, rising, at which a sign cancels with the next one."""
    return [place for place in range(len(row) - 1) if cancel(order, row[place], row[place + 1])]
