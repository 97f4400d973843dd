"""Worlds for a lexicon: a size for each of its marks, and cells for each kind."""

from wordwishes.lexicons import marks_of
from wordwishes.marks import is_mark
from wordwishes.reckoning import greatest_divisor, product
from wordwishes.things import is_tuple_of, is_whole

SUMS = "sums"
TRUTHS = "truths"
MOST_SIZE = 3
LEAST_OF_31_FIGURES = 10 ** 30


def is_fraction(thing):
    """Whether the thing is a fraction (top, bottom) that may be a cell."""
    return (
        is_tuple_of(thing, 2)
        and is_whole(thing[0])
        and is_whole(thing[1])
        and abs(thing[0]) < LEAST_OF_31_FIGURES
        and 1 <= thing[1] < LEAST_OF_31_FIGURES
        and greatest_divisor(thing[0], thing[1]) == 1
    )


def is_size(thing):
    """Whether the thing is a tuple (mark, size)."""
    return is_tuple_of(thing, 2) and is_mark(thing[0]) and is_whole(thing[1]) and 1 <= thing[1] <= MOST_SIZE


def are_sizes(lexicon, thing):
    """Whether the thing tells the sizes of just the lexicon's marks, alike by its order."""
    if not isinstance(thing, tuple) or not all([is_size(part) for part in thing]):
        return False
    if [mark for mark, size in thing] != marks_of(lexicon):
        return False
    size_of = {mark: size for mark, size in thing}
    # Sizes that are alike for each pair are alike along all ways by pairs.
    return all([size_of[low] == size_of[high] for low, high in lexicon[0]])


def ways_to_give_indices(size_of, kind):
    """How many ways there are to give each sign of the kind an index."""
    return product([size_of[mark] for mark, turn in kind])


def are_cells(how, many, thing):
    """Whether the thing is a tuple of so many cells."""
    if not is_tuple_of(thing, many):
        return False
    if how == SUMS:
        return all([is_fraction(cell) for cell in thing])
    return all([isinstance(cell, bool) for cell in thing])


def is_table(how, size_of, kinds, thing):
    """Whether the thing is a tuple with cells for each of the kinds."""
    return is_tuple_of(thing, len(kinds)) and all(
        [are_cells(how, ways_to_give_indices(size_of, kind), cells) for kind, cells in zip(kinds, thing)]
    )


def are_tables(lexicon, how, size_of, thing):
    """Whether the thing is a tuple with a table for each entry."""
    entries = lexicon[2]
    return is_tuple_of(thing, len(entries)) and all(
        [is_table(how, size_of, kinds, table) for (word, kinds), table in zip(entries, thing)]
    )


def is_how(thing):
    """Whether the thing is a word for how cells are put together."""
    return isinstance(thing, str) and thing in (SUMS, TRUTHS)


def is_world(lexicon, world):
    """Whether the thing that is handed in as a world is one for the lexicon."""
    if not is_tuple_of(world, 3) or not is_how(world[0]) or not are_sizes(lexicon, world[1]):
        return False
    size_of = {mark: size for mark, size in world[1]}
    return are_tables(lexicon, world[0], size_of, world[2])
