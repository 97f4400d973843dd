import fractions
import itertools
import math
import random
import unittest

from tests.things import NUMBERS, TEXTS, TUPLES, bent, odd_things
from tests.trials import (
    chance_lexicon,
    choices_of,
    is_world_by_hand,
    signs_by_hand,
    ways_to_index,
    words_drawings_by_trial,
    world_by_chance,
)
from wordwishes.drawings import drawing_at, many
from wordwishes.errors import NoDrawing, NoWord, NoWorld
from wordwishes.lexicons import is_lexicon
from wordwishes.lexicontexts import read_lexicon
from wordwishes.meanings import meaning
from wordwishes.worlds import is_world

LEXICON = read_lexicon("goal s; n < np; e: 1; john: n | np; runs: np.r s")
SIZES = (("n", 2), ("np", 2), ("s", 1))
SUMS = ("sums", SIZES, ((((1, 2),),), (((0, 1), (-3, 4)), ((1, 1), (5, 1))), (((2, 3), (-1, 1)),)))
TRUTHS = ("truths", SIZES, (((True,),), ((True, False), (False, False)), ((True, True),)))
WORDS = ("e", "john", "runs")
DRAWING = ((0, 0, 0), ((0, 1), (2, 3)))


def meaning_by_hand(lexicon, world, words, drawing, chance=random.Random(0)):
    """By all ways to give indices, the arcs gone through in an order by chance."""
    how, sizes, tables = world
    choice, arcs = drawing
    row = signs_by_hand(lexicon, words, choice)
    size_of = dict(sizes)
    arcs = list(arcs)
    chance.shuffle(arcs)
    names = [entry[0] for entry in lexicon[2]]
    cells = []
    for word, kind in zip(words, choice):
        entry = names.index(word)
        signs = lexicon[2][entry][1][kind]
        cells.append((len(signs), dict(zip(ways_to_index(size_of, signs), tables[entry][kind]))))
    told = [[] for index in range(size_of[lexicon[1]])]
    for way in itertools.product(*[range(size_of[row[i][0]]) for i, j in arcs]):
        index_of = {}
        for (i, j), index in zip(arcs, way):
            index_of[i] = index_of[j] = index
        begin = 0
        found = []
        for length, table in cells:
            found.append(table[tuple([index_of[at] for at in range(begin, begin + length)])])
            begin += length
        told[index_of[len(row) - 1]].append(found)
    if how == "truths":
        return tuple([any([all(found) for found in ways]) for ways in told])
    sums = [sum([math.prod([fractions.Fraction(*cell) for cell in found]) for found in ways]) for ways in told]
    return tuple([(fractions.Fraction(one).numerator, fractions.Fraction(one).denominator) for one in sums])


class MeaningTest(unittest.TestCase):
    def looked_at(self, lexicon, world, words, drawing):
        self.assertIs(is_lexicon(lexicon), True)
        self.assertIs(is_world(lexicon, world), True)
        told = meaning(lexicon, world, words, drawing)
        # A truth is alike to no number by what it shows of itself.
        self.assertEqual(repr(told), repr(meaning_by_hand(lexicon, world, words, drawing)))
        return told

    def test_by_sums(self):
        # 1/2 of (0 times 2/3 and -3/4 times -1).
        self.assertEqual(self.looked_at(LEXICON, SUMS, WORDS, DRAWING), ((3, 8),))
        self.assertEqual(self.looked_at(LEXICON, SUMS, WORDS, ((0, 1, 0), DRAWING[1])), ((-13, 6),))

    def test_by_truths(self):
        self.assertEqual(self.looked_at(LEXICON, TRUTHS, WORDS, DRAWING), (True,))
        self.assertEqual(self.looked_at(LEXICON, TRUTHS, WORDS, ((0, 1, 0), DRAWING[1])), (False,))
        never = ("truths", SIZES, (((False,),),) + TRUTHS[2][1:])
        self.assertEqual(self.looked_at(LEXICON, never, WORDS, DRAWING), (False,))

    def test_truths_must_meet_at_one_way(self):
        lexicon = read_lexicon("goal s; a: n; b: n.r s")
        sizes = (("n", 2), ("s", 1))
        for cells in itertools.product([True, False], repeat=4):
            world = ("truths", sizes, ((cells[:2],), (cells[2:],)))
            self.assertEqual(
                meaning(lexicon, world, ("a", "b"), ((0, 0), ((0, 1), (2, 3)))),
                ((cells[0] and cells[2]) or (cells[1] and cells[3]),),
            )

    def test_one_thing_for_each_index_of_the_goal(self):
        lexicon = read_lexicon("goal s; a: s")
        world = ("sums", (("s", 3),), ((((1, 2), (0, 1), (-7, 3)),),))
        self.assertEqual(self.looked_at(lexicon, world, ("a",), ((0,), ((0, 1),))), ((1, 2), (0, 1), (-7, 3)))
        world = ("truths", (("s", 3),), (((True, False, True),),))
        self.assertEqual(self.looked_at(lexicon, world, ("a",), ((0,), ((0, 1),))), (True, False, True))

    def test_the_last_signs_index_goes_on_from_cell_to_cell(self):
        lexicon = read_lexicon("goal s; a: n; b: n.r s")
        cells = tuple([(number, 1) for number in range(6)])
        world = ("sums", (("n", 2), ("s", 3)), ((((1, 1), (10, 1)),), (cells,)))
        drawing = ((0, 0), ((0, 1), (2, 3)))
        self.assertEqual(self.looked_at(lexicon, world, ("a", "b"), drawing), ((30, 1), (41, 1), (52, 1)))

    def test_several_arcs_within_one_words_kind(self):
        chance = random.Random(2)
        lexicon = read_lexicon("goal s; a: n n n.r n.r s; b: n.l n m m.r")
        words = ("b", "a", "b")
        drawing = ((0, 0, 0), ((0, 1), (2, 3), (4, 7), (5, 6), (8, 13), (9, 10), (11, 12)))
        for how in ["sums", "truths"]:
            for time in range(5):
                world = world_by_chance(chance, lexicon, how, (2,))
                self.looked_at(lexicon, world, words, drawing)

    def test_kinds_without_signs(self):
        lexicon = read_lexicon("goal s; a: s; e: 1 | m m.r")
        world = ("sums", (("m", 1), ("s", 1)), ((((3, 1),),), (((2, 5),), ((1, 7),))))
        self.assertEqual(self.looked_at(lexicon, world, ("a",), ((0,), ((0, 1),))), ((3, 1),))
        self.assertEqual(self.looked_at(lexicon, world, ("e", "a", "e"), ((0, 0, 0), ((0, 1),))), ((12, 25),))

    def test_words_that_stand_there_twice(self):
        lexicon = read_lexicon("goal s; a: s s.l | s")
        world = ("sums", (("s", 2),), ((((1, 1), (2, 1), (3, 1), (4, 1)), ((5, 1), (-6, 1))),))
        words = ("a", "a", "a")
        for number in range(many(lexicon, words)):
            self.looked_at(lexicon, world, words, drawing_at(lexicon, words, number))

    def test_fractions_of_many_figures(self):
        lexicon = read_lexicon("goal s; a: s s.l; b: s")
        high, low = 10**30 - 1, 10**30 - 2
        cells = ((high, low), (-low, high), (1, high), (10**29, 10**29 + 1))
        world = ("sums", (("s", 2),), ((cells,), (((low, high), (1, low)),)))
        words = ("a",) * 7 + ("b",)
        told = self.looked_at(lexicon, world, words, drawing_at(lexicon, words, 0))
        self.assertGreater(told[0][1], 10**100)

    def test_lowest_terms(self):
        lexicon = read_lexicon("goal s; a: n; b: n.r s")
        drawing = ((0, 0), ((0, 1), (2, 3)))
        for cells, right in [
            (((1, 2), (1, 2)), ((1, 1),)),
            (((1, 6), (1, 3)), ((1, 2),)),
            (((1, 2), (-1, 2)), ((0, 1),)),
            (((-1, 6), (-1, 3)), ((-1, 2),)),
            (((0, 1), (0, 1)), ((0, 1),)),
        ]:
            world = ("sums", (("n", 2), ("s", 1)), ((cells,), (((1, 1), (1, 1)),)))
            self.assertEqual(self.looked_at(lexicon, world, ("a", "b"), drawing), right)

    def test_2048_ways(self):
        chance = random.Random(2048)
        lexicon = read_lexicon("goal s; a: n n n n n; b: n.r n.r n.r n.r n.r; c: n n.r s")
        words = ("a", "b", "a", "b", "c")
        for how in ["sums", "truths"]:
            world = world_by_chance(chance, lexicon, how, (2,))
            drawing = drawing_at(lexicon, words, 0)
            self.assertEqual(len(drawing[1]), 12)
            self.assertEqual(len(self.looked_at(lexicon, world, words, drawing)), 2)

    def test_ways_of_sizes_3_and_1(self):
        chance = random.Random(3)
        lexicon = read_lexicon("goal s; a: n n n; b: n.r n.r n.r s; c: m m.r; d: o o.r o o.r")
        words = ("c", "d", "a", "b", "c", "d")
        drawing = drawing_at(lexicon, words, 0)
        for how in ["sums", "truths"]:
            for time in range(6):
                world = world_by_chance(chance, lexicon, how, (1, 3))
                if math.prod([dict(world[1])[mark] for mark in "nnnmmoooo"]) <= 2048:
                    self.looked_at(lexicon, world, words, drawing)

    def test_by_chance(self):
        chance = random.Random(18)
        told = []
        for time in range(400):
            lexicon = chance_lexicon(chance, 3, 4, 3, "ab", (0, 1))
            words = tuple([chance.choice("abc") for at in range(chance.randrange(1, 5))])
            right = words_drawings_by_trial(lexicon, words)
            if right:
                for how in ["sums", "truths"]:
                    world = world_by_chance(chance, lexicon, how, (1, 2) if len(words) > 3 else (1, 2, 3))
                    told.append(self.looked_at(lexicon, world, words, chance.choice(right)))
        self.assertGreater(len(told), 100)
        self.assertGreater(len(set(told)), 50)


class RefusalTest(unittest.TestCase):
    def refused(self, error, world, words, drawing, lexicon=LEXICON):
        with self.subTest(world=repr(world), words=words, drawing=repr(drawing)):
            with self.assertRaises(error) as caught:
                meaning(lexicon, world, words, drawing)
            return caught.exception

    def test_no_word_ahead_of_all_else(self):
        for world in [SUMS, TRUTHS, None, (), SUMS[:2]]:
            for words, wrong in [(("x",), "x"), (("",), ""), (("john", "y", "x"), "y"), (("e", "john", "run"), "run")]:
                for drawing in [DRAWING, None, ((), ())]:
                    self.assertEqual(self.refused(NoWord, world, words, drawing).word, wrong)

    def test_no_world_ahead_of_no_drawing(self):
        for thing in odd_things() + NUMBERS + TEXTS + TUPLES:
            self.refused(NoWorld, thing, WORDS, DRAWING)
            self.refused(NoWorld, thing, WORDS, thing)
            self.refused(NoWorld, thing, (), None)

    def test_worlds_bent_in_one_place_at_any_depth(self):
        for world in [SUMS, TRUTHS]:
            refused = 0
            for thing in bent(world):
                if is_world_by_hand(LEXICON, thing):
                    told = meaning(LEXICON, thing, WORDS, DRAWING)
                    self.assertEqual(told, meaning_by_hand(LEXICON, thing, WORDS, DRAWING))
                else:
                    self.refused(NoWorld, thing, WORDS, DRAWING)
                    self.refused(NoWorld, thing, WORDS, None)
                    refused += 1
            self.assertGreater(refused, 500)

    def test_drawings_bent_in_one_place_at_any_depth(self):
        right = {repr(drawing) for drawing in words_drawings_by_trial(LEXICON, WORDS)}
        self.assertEqual(len(right), len(choices_of(LEXICON, WORDS)))
        refused = 0
        for world in [SUMS, TRUTHS]:
            for thing in bent(DRAWING):
                if repr(thing) not in right:
                    self.refused(NoDrawing, world, WORDS, thing)
                    refused += 1
        self.assertGreater(refused, 500)

    def test_things_of_any_kind_for_a_drawing(self):
        for thing in odd_things() + NUMBERS + TEXTS + TUPLES:
            self.refused(NoDrawing, SUMS, WORDS, thing)
            self.refused(NoDrawing, TRUTHS, ("john",), thing)
            self.refused(NoDrawing, TRUTHS, (), thing)

    def test_a_drawing_of_other_words(self):
        self.refused(NoDrawing, SUMS, ("john", "runs"), DRAWING)
        self.refused(NoDrawing, SUMS, ("john", "e", "john"), DRAWING)
        self.refused(NoDrawing, SUMS, (), ((), ()))


if __name__ == "__main__":
    unittest.main()
