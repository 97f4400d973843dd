"""Signs and rows: what leads, cancels and may grow; wishes and mirror images."""

from wordwishes.marks import at_most, is_mark
from wordwishes.things import is_tuple_of, is_whole

MOST_TURN = 99


def is_turn(thing):
    """Whether the thing is a turn that a sign may have."""
    return is_whole(thing) and -MOST_TURN <= thing <= MOST_TURN


def is_sign(thing):
    """Whether the thing is a sign (mark, turn)."""
    return is_tuple_of(thing, 2) and is_mark(thing[0]) and is_turn(thing[1])


def is_row(thing):
    """Whether the thing is a row, of whatever length."""
    return isinstance(thing, tuple) and all([is_sign(sign) for sign in thing])


def mark_leads(order, turn, one, other):
    """Whether the one mark leads to the other where both have this turn."""
    if turn % 2 == 0:
        return at_most(order, one, other)
    return at_most(order, other, one)


def leads(order, one, other):
    """Whether the one sign leads to the other."""
    return one[1] == other[1] and mark_leads(order, one[1], one[0], other[0])


def cancel(order, one, other):
    """Whether the one sign and the other, next behind it, cancel."""
    return one[1] + 1 == other[1] and mark_leads(order, one[1], one[0], other[0])


def may_grow(order, one, other):
    """Whether the one sign and the other, next behind it, may grow."""
    return one[1] == other[1] + 1 and mark_leads(order, other[1], one[0], other[0])


def right_wish(row):
    """The row in reverse order, each sign with one turn more."""
    return tuple([(mark, turn + 1) for mark, turn in reversed(row)])


def left_wish(row):
    """The row in reverse order, each sign with one turn less."""
    return tuple([(mark, turn - 1) for mark, turn in reversed(row)])


def mirror(row):
    """The row in reverse order, each turn with the other sign."""
    return tuple([(mark, -turn) for mark, turn in reversed(row)])
