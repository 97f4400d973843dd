"""What the checker asks of rows: whether a paper shows that one doesn't cancel wholly."""

from wordwishes.arcs import is_uneven
from wordwishes.closings import Ground, is_closed, put_sign
from wordwishes.marks import is_mark
from wordwishes.signs import is_row
from wordwishes.things import is_tuple_called, is_tuple_of, is_whole

MOST_SIGNS_OF_ROW = 60


def is_row_taken(thing):
    """Whether the thing is a row of no more signs than the checker takes."""
    return is_row(thing) and len(thing) <= MOST_SIGNS_OF_ROW


def is_stretch(thing, many):
    """Whether the thing is a pair (i, j) of places within a row of so many signs, i not behind j."""
    return is_tuple_of(thing, 2) and is_whole(thing[0]) and is_whole(thing[1]) and 0 <= thing[0] <= thing[1] <= many


def ground_of_row(row):
    """The row's places, numbered from 0, with its signs between them."""
    ground = Ground([(at, at) for at in range(len(row) + 1)], [(0, len(row))])
    for at, sign in enumerate(row):
        put_sign(ground, sign, at, at + 1)
    return ground


def are_pairs_against_row(order, row, thing):
    """Whether the thing is a tuple of pairs, closed, that shows that the row doesn't cancel wholly."""
    return (
        isinstance(thing, tuple)
        and all([is_stretch(pair, len(row)) for pair in thing])
        and is_closed(order, ground_of_row(row), thing)
    )


def is_paper_against_row(order, row, thing):
    """Whether the thing is a paper that shows that the row doesn't cancel wholly."""
    if is_tuple_called(thing, "counted", 2):
        return is_mark(thing[1]) and is_uneven(order, row, thing[1])
    return is_tuple_called(thing, "closed", 2) and are_pairs_against_row(order, row, thing[1])
