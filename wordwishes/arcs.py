"""Drawings of rows that cancel wholly, and papers on why a row doesn't."""

from wordwishes.marks import hanging_with
from wordwishes.signs import cancel
from wordwishes.things import is_tuple_of, is_whole


def is_arc(thing, many):
    """Whether the thing is an arc between two of so many signs."""
    return is_tuple_of(thing, 2) and is_whole(thing[0]) and is_whole(thing[1]) and 0 <= thing[0] < thing[1] < many


def are_arcs(thing, many):
    """Whether the thing is a rising tuple of arcs, with each of so many signs in just one of them."""
    if not isinstance(thing, tuple) or not all([is_arc(arc, many) for arc in thing]):
        return False
    ends = [end for arc in thing for end in arc]
    return sorted(ends) == list(range(many)) and sorted(thing) == list(thing)


def some_cross(arcs):
    """Whether some two arcs cross."""
    return any([left < first < right < last for left, right in arcs for first, last in arcs])


def is_drawing(order, row, arcs):
    """Whether the thing that is handed in as arcs is a drawing of the row."""
    return (
        are_arcs(arcs, len(row))
        and all([cancel(order, row[left], row[right]) for left, right in arcs])
        and not some_cross(arcs)
    )


def mates_in(order, row):
    """For each sign the signs behind it with which an arc may join it."""
    # The signs under an arc are joined with one another, so they are even in number.
    many = len(row)
    return [[mate for mate in range(at + 1, many, 2) if cancel(order, row[at], row[mate])] for at in range(many)]


def splits(mates, counts, begin, end):
    """The mates of the stretch's first sign within it, each with how many drawings join the two."""
    return [
        (mate, counts[(begin + 1, mate)] * counts[(mate + 1, end)])
        for mate in mates[begin]
        if mate < end
    ]


def stretch_counts(mates):
    """How many drawings each stretch of even length has, by (begin, end), the end behind its last sign."""
    many = len(mates)
    counts = {(at, at): 1 for at in range(many + 1)}
    for length in range(2, many + 1, 2):
        for begin in range(many - length + 1):
            end = begin + length
            counts[(begin, end)] = sum([count for mate, count in splits(mates, counts, begin, end)])
    return counts


def whole_count(counts, row):
    """How many drawings the whole row has."""
    return counts.get((0, len(row)), 0)


def ways(order, row):
    """How many drawings the row has."""
    return whole_count(stretch_counts(mates_in(order, row)), row)


def drawing_of(order, row):
    """A drawing of the row, or None."""
    mates = mates_in(order, row)
    counts = stretch_counts(mates)
    if whole_count(counts, row) == 0:
        return None
    arcs = []
    stretches = [(0, len(row))]
    while len(stretches) > 0:
        begin, end = stretches.pop()
        if begin < end:
            mate = [at for at, count in splits(mates, counts, begin, end) if count > 0][0]
            arcs.append((begin, mate))
            stretches.extend([(begin + 1, mate), (mate + 1, end)])
    return tuple(sorted(arcs))


def surplus(marks, row):
    """How many more odd turns than even ones there are, of the signs with one of these marks."""
    return sum([1 if turn % 2 == 1 else -1 for mark, turn in row if mark in marks])


def is_uneven(order, row, mark):
    """Whether even and odd turns are not as many, of the signs that hang together with the mark."""
    return surplus(hanging_with(order, mark), row) != 0


def why_not(order, row):
    """A paper that shows that the row doesn't cancel wholly, or None where it does."""
    counts = stretch_counts(mates_in(order, row))
    if whole_count(counts, row) > 0:
        return None
    for mark, turn in row:
        if is_uneven(order, row, mark):
            return ("counted", mark)
    # The stretches that cancel wholly are closed by themselves, and all of them must be there.
    return ("closed", tuple(sorted([stretch for stretch, count in counts.items() if count > 0])))
