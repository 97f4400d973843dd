"""Plain trials of all answers, and looks at papers rule by rule, against which the program's answers are held."""

import fractions
import functools
import itertools
import math

from wordwishes.marks import at_most
from wordwishes.signs import cancel


def crosses(one, other):
    return one[0] < other[0] < one[1] < other[1]


def pairings(numbers):
    """All ways to part the numbers into pairs, whatever crosses."""
    if not numbers:
        return [()]
    first, rest = numbers[0], numbers[1:]
    told = []
    for at, mate in enumerate(rest):
        told.extend([((first, mate),) + more for more in pairings(rest[:at] + rest[at + 1 :])])
    return told


@functools.lru_cache(maxsize=None)
def pairings_that_do_not_cross(many):
    if many % 2 == 1:
        return ()
    return tuple(
        arcs
        for arcs in pairings(tuple(range(many)))
        if not any([crosses(one, other) for one in arcs for other in arcs])
    )


def drawings_by_trial(order, row):
    """All drawings of the row, by the words of the document, by trial of all pairings."""
    return [
        arcs
        for arcs in pairings_that_do_not_cross(len(row))
        if all([cancel(order, row[i], row[j]) for i, j in arcs])
    ]


def kinds_in(lexicon, words):
    """The kinds of each word."""
    table = dict(lexicon[2])
    return [table[word] for word in words]


def signs_by_hand(lexicon, words, choice):
    row = ()
    for kinds, number in zip(kinds_in(lexicon, words), choice):
        row += kinds[number]
    return row + ((lexicon[1], 1),)


def choices_of(lexicon, words):
    return list(itertools.product(*[range(len(kinds)) for kinds in kinds_in(lexicon, words)]))


def words_drawings_by_trial(lexicon, words):
    """All drawings of the words, by trial of all choices and all pairings."""
    return [
        (choice, arcs)
        for choice in choices_of(lexicon, words)
        for arcs in drawings_by_trial(lexicon[0], signs_by_hand(lexicon, words, choice))
    ]


@functools.lru_cache(maxsize=None)
def cancels_wholly_by_trial(order, row):
    """Whether the row comes to the row without signs, by trial of all cancels of neighbours."""
    if not row:
        return True
    return any(
        cancels_wholly_by_trial(order, row[:at] + row[at + 2 :])
        for at in range(len(row) - 1)
        if cancel(order, row[at], row[at + 1])
    )


def is_sentence_by_trial(lexicon, words):
    """Whether the words are a sentence, by trial of all choices and all cancels."""
    return any(
        cancels_wholly_by_trial(lexicon[0], signs_by_hand(lexicon, words, choice))
        for choice in choices_of(lexicon, words)
    )


def sentences_by_trial(lexicon, length):
    """All sentences of so many words, by trial of all rows of words."""
    rows = itertools.product([word for word, kinds in lexicon[2]], repeat=length)
    return sorted([row for row in rows if is_sentence_by_trial(lexicon, row)])


def chance_row(chance, most, marks="abcd", turns=(-2, -1, 0, 1, 2)):
    many = chance.randrange(most + 1)
    return tuple([(chance.choice(marks), chance.choice(turns)) for at in range(many)])


def chance_lexicon(chance, entries, kinds, signs, marks="abc", turns=(-1, 0, 1)):
    """A lexicon with words a, b .. of up to so many kinds of up to so many signs."""
    order = tuple([(chance.choice(marks), chance.choice(marks)) for at in range(chance.randrange(3))])
    told = []
    for number in range(entries):
        rows = []
        for time in range(chance.randrange(1, kinds + 1)):
            row = chance_row(chance, signs, marks, turns)
            if row not in rows:
                rows.append(row)
        told.append(("abcdefghij"[number], tuple(rows)))
    return (order, chance.choice(marks), tuple(told))


def hanging_together(order, mark):
    together = {mark}
    for time in range(len(order) + 1):
        for low, high in order:
            if low in together or high in together:
                together |= {low, high}
    return together


def is_even_by(order, row, mark):
    """Whether even and odd turns are as many, of the signs that hang together with the mark."""
    together = hanging_together(order, mark)
    turns = [turn for known, turn in row if known in together]
    return 2 * len([turn for turn in turns if turn % 2 == 0]) == len(turns)


class Papers:
    """Looks at papers, each rule that the document tells; for a TestCase that has this as a base, too."""

    def rises(self, pairs):
        self.assertIsInstance(pairs, tuple)
        for pair in pairs:
            self.assertIsInstance(pair, tuple)
            self.assertEqual(len(pair), 2)
        for one, other in zip(pairs, pairs[1:]):
            self.assertLess(one, other)

    def row_closed_shows(self, order, row, pairs):
        many = len(row)
        self.rises(pairs)
        for i, j in pairs:
            self.assertEqual({i.__class__, j.__class__}, {int})
            self.assertTrue(0 <= i <= j <= many)
        there = set(pairs)
        for at in range(many + 1):
            self.assertIn((at, at), there)
        for i, j in pairs:
            for k in range(many + 1):
                if (j, k) in there:
                    self.assertIn((i, k), there)
            if i > 0 and j < many and cancel(order, row[i - 1], row[j]):
                self.assertIn((i - 1, j + 1), there)
        self.assertNotIn((0, many), there)

    def row_paper_shows(self, order, row, paper):
        """That the paper shows that the row doesn't cancel wholly."""
        self.assertIsInstance(paper, tuple)
        name, told = paper
        self.assertIn(name, ["closed", "counted"])
        if name == "closed":
            self.row_closed_shows(order, row, told)
        else:
            self.assertIsInstance(told, str)
            self.assertFalse(is_even_by(order, row, told))

    def words_closed_shows(self, lexicon, words, pairs):
        order = lexicon[0]
        kinds = kinds_in(lexicon, words) + [(((lexicon[1], 1),),)]
        places = [(w, k, p) for w, rows in enumerate(kinds) for k, row in enumerate(rows) for p in range(len(row) + 1)]
        known = set(places)
        self.rises(pairs)
        for pair in pairs:
            for place in pair:
                self.assertIsInstance(place, tuple)
                self.assertEqual({part.__class__ for part in place}, {int})
                self.assertIn(place, known)
        there = set(pairs)
        for place in places:
            self.assertIn((place, place), there)
        for w in range(len(kinds) - 1):
            for k, row in enumerate(kinds[w]):
                for after in range(len(kinds[w + 1])):
                    self.assertIn(((w, k, len(row)), (w + 1, after, 0)), there)
        for x, y in pairs:
            for z in places:
                if (y, z) in there:
                    self.assertIn((x, z), there)
            (w, k, p), (v, l, q) = x, y
            if p > 0 and q < len(kinds[v][l]) and cancel(order, kinds[w][k][p - 1], kinds[v][l][q]):
                self.assertIn(((w, k, p - 1), (v, l, q + 1)), there)
        for k in range(len(kinds[0])):
            self.assertNotIn(((0, k, 0), (len(words), 0, 1)), there)

    def words_paper_shows(self, lexicon, words, paper):
        """That the paper shows that the words are no sentence."""
        self.assertIsInstance(paper, tuple)
        name, told = paper
        self.assertIn(name, ["closed", "counted"])
        if name == "closed":
            self.words_closed_shows(lexicon, words, told)
        else:
            self.assertIsInstance(told, str)
            for choice in choices_of(lexicon, words):
                self.assertFalse(is_even_by(lexicon[0], signs_by_hand(lexicon, words, choice), told))


def step_names(walk):
    return [step[0] for step in walk]


def is_sorted_walk(walk):
    """Whether cancels stand first, then orders, growths last."""
    names = step_names(walk)
    return names == sorted(names, key=["cancel", "order", "grow"].index)


def world_by_chance(chance, lexicon, how, sizes=(1, 2, 3)):
    """A world for the lexicon, by "sums" or by "truths"."""
    size_of = {}
    for mark in marks_by_hand(lexicon):
        if mark not in size_of:
            size = chance.choice(sizes)
            size_of.update({other: size for other in hanging_together(lexicon[0], mark)})
    return world_with(chance, lexicon, how, size_of)


def world_with(chance, lexicon, how, size_of):
    """A world for the lexicon with these sizes of marks."""
    tables = tuple(
        tuple(
            tuple([cell_by_chance(chance, how) for way in ways_to_index(size_of, kind)])
            for kind in kinds
        )
        for word, kinds in lexicon[2]
    )
    return (how, tuple([(mark, size_of[mark]) for mark in marks_by_hand(lexicon)]), tables)


def marks_by_hand(lexicon):
    order, goal, entries = lexicon
    marks = {goal} | {mark for pair in order for mark in pair}
    return sorted(marks | {mark for word, kinds in entries for kind in kinds for mark, turn in kind})


def ways_to_index(size_of, kind):
    """All ways to give the signs indices, the last one's going on first."""
    return list(itertools.product(*[range(size_of[mark]) for mark, turn in kind]))


def cell_by_chance(chance, how):
    if how == "truths":
        return chance.random() < 0.6
    told = fractions.Fraction(chance.randrange(-5, 6), chance.randrange(1, 5))
    return (told.numerator, told.denominator)


def is_exactly(thing, kind):
    return thing.__class__ is kind


def is_fraction_by_hand(thing):
    if not is_exactly(thing, tuple) or len(thing) != 2 or {part.__class__ for part in thing} != {int}:
        return False
    top, bottom = thing
    return bottom >= 1 and math.gcd(top, bottom) == 1 and len(str(abs(top))) <= 30 and len(str(bottom)) <= 30


def is_world_by_hand(lexicon, thing):
    """What the document says of worlds, rule by rule."""
    if not is_exactly(thing, tuple) or len(thing) != 3:
        return False
    how, sizes, tables = thing
    if not is_exactly(how, str) or how not in ["sums", "truths"]:
        return False
    if not is_exactly(sizes, tuple) or not all([is_exactly(part, tuple) and len(part) == 2 for part in sizes]):
        return False
    if not all([is_exactly(mark, str) and is_exactly(size, int) and size in [1, 2, 3] for mark, size in sizes]):
        return False
    size_of = dict(sizes)
    marks = marks_by_hand(lexicon)
    if [mark for mark, size in sizes] != marks:
        return False
    if any([at_most(lexicon[0], one, other) and size_of[one] != size_of[other] for one in marks for other in marks]):
        return False
    if not is_exactly(tables, tuple) or len(tables) != len(lexicon[2]):
        return False
    for (word, kinds), table in zip(lexicon[2], tables):
        if not is_exactly(table, tuple) or len(table) != len(kinds):
            return False
        for kind, cells in zip(kinds, table):
            if not is_exactly(cells, tuple) or len(cells) != len(ways_to_index(size_of, kind)):
                return False
            is_cell = is_fraction_by_hand if how == "sums" else lambda cell: is_exactly(cell, bool)
            if not all([is_cell(cell) for cell in cells]):
                return False
    return True


def closure(pairs, around):
    """The least set of pairs with these, closed: linked, and with each pair what is told of it by around."""
    there = set(pairs)
    fresh = list(there)
    while fresh:
        x, y = fresh.pop()
        more = {(x, z) for again, z in there if again == y} | {(w, y) for w, again in there if again == x}
        for pair in (more | set(around(x, y))) - there:
            there.add(pair)
            fresh.append(pair)
    return tuple(sorted(there))


def closed_for_row(order, row):
    """The least closed pairs of a row."""
    many = len(row)

    def around(i, j):
        return [(i - 1, j + 1)] if i > 0 and j < many and cancel(order, row[i - 1], row[j]) else []

    return closure([(at, at) for at in range(many + 1)], around)


def closed_for_words(lexicon, words, more=()):
    """The least closed pairs of places of the words, with these more among them."""
    kinds = kinds_in(lexicon, words) + [(((lexicon[1], 1),),)]
    pairs = list(more)
    for w, rows in enumerate(kinds):
        for k, row in enumerate(rows):
            pairs.extend([((w, k, p), (w, k, p)) for p in range(len(row) + 1)])
            if w < len(words):
                pairs.extend([((w, k, len(row)), (w + 1, l, 0)) for l in range(len(kinds[w + 1]))])

    def around(x, y):
        (w, k, p), (v, l, q) = x, y
        if p > 0 and q < len(kinds[v][l]) and cancel(lexicon[0], kinds[w][k][p - 1], kinds[v][l][q]):
            return [((w, k, p - 1), (v, l, q + 1))]
        return []

    return closure(pairs, around)


def comes_by_trial(order, one, other):
    """Whether the one row comes to the other, by trial of all cancels of the one with the other's right wish."""
    return cancels_wholly_by_trial(order, one + tuple([(mark, turn + 1) for mark, turn in other[::-1]]))
