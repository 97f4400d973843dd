"""What the checker asks of worlds: whether a thing is one, and what a drawing means in it."""

from wordwishes.lexicons import kinds_of, marks_of, words_of
from wordwishes.reckoning import common_bottom, greatest_divisor, lowest_terms, product, tops_over
from wordwishes.things import is_tuple_called, is_tuple_of, is_whole
from wordwishes.wordclaims import row_of_choice

GREATEST_SIZE = 3
BEYOND_30_FIGURES = 10 ** 30
MOST_WAYS = 2048


def is_size_of(mark, thing):
    """Whether the thing is a tuple of the mark and a size."""
    return is_tuple_called(thing, mark, 2) and is_whole(thing[1]) and 1 <= thing[1] <= GREATEST_SIZE


def are_sizes_of_marks(lexicon, thing):
    """Whether the thing has a size for each of the lexicon's marks, alike by its order."""
    marks = marks_of(lexicon)
    if not is_tuple_of(thing, len(marks)) or not all([is_size_of(mark, part) for mark, part in zip(marks, thing)]):
        return False
    size_of = dict(thing)
    return all([size_of[low] == size_of[high] for low, high in lexicon[0]])


def is_cell(how, thing):
    """Whether the thing is a cell of a world that is so put together."""
    if how == "truths":
        return isinstance(thing, bool)
    if not is_tuple_of(thing, 2) or not is_whole(thing[0]) or not is_whole(thing[1]):
        return False
    top, bottom = thing
    return abs(top) < BEYOND_30_FIGURES and 1 <= bottom < BEYOND_30_FIGURES and greatest_divisor(top, bottom) == 1


def are_cells_of(how, size_of, kind, thing):
    """Whether the thing is a tuple of a cell for each way to give the kind's signs indices."""
    many = product([size_of[mark] for mark, turn in kind])
    return is_tuple_of(thing, many) and all([is_cell(how, part) for part in thing])


def is_table_of(how, size_of, kinds, thing):
    """Whether the thing is a tuple of cells for each kind."""
    return is_tuple_of(thing, len(kinds)) and all(
        [are_cells_of(how, size_of, kind, cells) for kind, cells in zip(kinds, thing)]
    )


def is_world_of(lexicon, thing):
    """Whether the thing is a world for the lexicon."""
    if not is_tuple_called(thing, "sums", 3) and not is_tuple_called(thing, "truths", 3):
        return False
    how, sizes, tables = thing
    if not are_sizes_of_marks(lexicon, sizes) or not is_tuple_of(tables, len(lexicon[2])):
        return False
    size_of = dict(sizes)
    return all([is_table_of(how, size_of, entry[1], table) for entry, table in zip(lexicon[2], tables)])


class WaySum:
    """A drawing's meaning as a sum over all ways to give its arcs indices.

    sizes: of each arc; goal: the number of the arc of the goal's wish.
    factors: for each word its cells as whole numbers, with the numbers of its signs' arcs.
    bottom: that of each product of the factors' numbers.
    """

    def __init__(self, lexicon, world, words, drawing):
        choice, arcs = drawing
        how, sizes, tables = world
        row = row_of_choice(lexicon, words, choice)
        size_of = dict(sizes)
        arc_at = {sign: number for number, arc in enumerate(arcs) for sign in arc}
        self.sizes = [size_of[row[left][0]] for left, right in arcs]
        self.goal = arc_at[len(row) - 1]
        self.factors = []
        self.bottom = 1
        begin = 0
        for word, kind in zip(words, choice):
            cells = tables[words_of(lexicon).index(word)][kind]
            common = common_bottom(cells) if how == "sums" else 1
            end = begin + len(kinds_of(lexicon, word)[kind])
            numbers = tops_over(common, cells) if how == "sums" else [int(cell) for cell in cells]
            self.factors.append((numbers, [arc_at[sign] for sign in range(begin, end)]))
            self.bottom *= common
            begin = end


def number_at(meant, factor, way):
    """The number of the factor's cell at the indices that the way gives its arcs."""
    numbers, arcs = factor
    place = 0
    for arc in arcs:
        place = place * meant.sizes[arc] + way[arc]
    return numbers[place]


def totals_of(meant):
    """For each index of the goal the sum of the products of numbers."""
    ways = [()]
    for size in meant.sizes:
        ways = [way + (index,) for way in ways for index in range(size)]
    totals = [0 for index in range(meant.sizes[meant.goal])]
    for way in ways:
        totals[way[meant.goal]] += product([number_at(meant, factor, way) for factor in meant.factors])
    return totals


def are_truths(totals, thing):
    """Whether the thing tells of each total whether there is some."""
    return all([isinstance(part, bool) for part in thing]) and list(thing) == [total > 0 for total in totals]


def are_fractions(totals, bottom, thing):
    """Whether the thing tells each total over the bottom, in lowest terms."""
    if not all([is_tuple_of(part, 2) and is_whole(part[0]) and is_whole(part[1]) for part in thing]):
        return False
    return list(thing) == [lowest_terms(total, bottom) for total in totals]


def is_meaning(lexicon, world, words, drawing, thing):
    """Whether the thing is what the drawing means, in no more ways than the checker takes."""
    meant = WaySum(lexicon, world, words, drawing)
    goal_size = meant.sizes[meant.goal]
    if not is_tuple_of(thing, goal_size) or product(meant.sizes) > MOST_WAYS * goal_size:
        return False
    if world[0] == "truths":
        return are_truths(totals_of(meant), thing)
    return are_fractions(totals_of(meant), meant.bottom, thing)
