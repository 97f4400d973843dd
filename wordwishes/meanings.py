"""What a drawing of words means in a world."""

from wordwishes.drawings import refuse_no_drawing
from wordwishes.errors import NoWorld
from wordwishes.lexicons import refuse_other_words
from wordwishes.reckoning import common_bottom, lowest_terms, product, tops_over
from wordwishes.sentences import signs_of
from wordwishes.worlds import SUMS, is_world


class Net:
    """A drawing as arcs that bear indices, and the words' cells between them.

    sizes: how many indices each arc may have; goal: the number of the goal's wish's arc.
    cells: the cells of each word's kind; ends: the numbers of the arcs at which each word's signs are.
    """

    def __init__(self, lexicon, world, words, drawing):
        choice, arcs = drawing
        row = signs_of(lexicon, words, choice)
        size_of = {mark: size for mark, size in world[1]}
        arc_of = {sign: number for number, arc in enumerate(arcs) for sign in arc}
        self.sizes = [size_of[row[left][0]] for left, right in arcs]
        self.goal = arc_of[len(row) - 1]
        self.cells = []
        self.ends = []
        entry_of = {entry[0]: number for number, entry in enumerate(lexicon[2])}
        begin = 0
        for word, kind in zip(words, choice):
            entry = entry_of[word]
            end = begin + len(lexicon[2][entry][1][kind])
            self.cells.append(world[2][entry][kind])
            self.ends.append([arc_of[sign] for sign in range(begin, end)])
            begin = end


def ways_with(net, index):
    """All ways to give the arcs indices, this one to the goal's wish's arc."""
    ways = [()]
    for arc, size in enumerate(net.sizes):
        indices = [index] if arc == net.goal else list(range(size))
        ways = [way + (one,) for way in ways for one in indices]
    return ways


def cell_number(net, ends, way):
    """The number of the cell at the indices of these arcs; the last one's goes on from cell to cell."""
    number = 0
    for arc in ends:
        number = number * net.sizes[arc] + way[arc]
    return number


def cells_at(net, tables, way):
    """For each word what its table has at the indices of its arcs."""
    return [table[cell_number(net, ends, way)] for table, ends in zip(tables, net.ends)]


def sum_at(net, bottoms, tops, index):
    """The sum of the products of cells, tops over their words' bottoms, with this index of the goal."""
    total = sum([product(cells_at(net, tops, way)) for way in ways_with(net, index)])
    return lowest_terms(total, product(bottoms))


def sums(net):
    """The sum for each index of the goal."""
    # With one bottom for each word the tops are summed as whole numbers, and what divides is sought but once.
    bottoms = [common_bottom(cells) for cells in net.cells]
    tops = [tops_over(bottom, cells) for bottom, cells in zip(bottoms, net.cells)]
    return tuple([sum_at(net, bottoms, tops, index) for index in range(net.sizes[net.goal])])


def truths(net):
    """For each index of the goal whether for some way all cells are True."""
    return tuple(
        [
            any([all(cells_at(net, net.cells, way)) for way in ways_with(net, index)])
            for index in range(net.sizes[net.goal])
        ]
    )


def meaning(lexicon, world, words, drawing):
    """What the drawing means, for each index of the goal's mark; NoWord, then NoWorld, then NoDrawing."""
    refuse_other_words(lexicon, words)
    if not is_world(lexicon, world):
        raise NoWorld("this is no world for this lexicon")
    refuse_no_drawing(lexicon, words, drawing)
    net = Net(lexicon, world, words, drawing)
    return sums(net) if world[0] == SUMS else truths(net)
