"""Marks, orders, which mark is at most another one, and which hang together."""

from wordwishes.things import is_short_word, is_tuple_of

MOST_PAIRS = 8


def is_mark(thing):
    """Whether the thing is a mark."""
    return is_short_word(thing)


def is_pair(thing):
    """Whether the thing is a pair (low, high) of marks."""
    return is_tuple_of(thing, 2) and is_mark(thing[0]) and is_mark(thing[1])


def is_order(thing):
    """Whether the thing is an order."""
    return isinstance(thing, tuple) and len(thing) <= MOST_PAIRS and all([is_pair(pair) for pair in thing])


def reached_from(pairs, mark):
    """The marks to which one comes from this one by the pairs, itself among them."""
    reached = [mark]
    at = 0
    while at < len(reached):
        for low, high in pairs:
            if low == reached[at] and high not in reached:
                reached.append(high)
        at += 1
    return reached


def at_most(order, one, other):
    """Whether the one mark is at most the other by the order."""
    return other in reached_from(order, one)


def hanging_with(order, mark):
    """The marks that hang together with this one by the pairs, gone either way; itself among them."""
    return reached_from(order + tuple([(high, low) for low, high in order]), mark)
