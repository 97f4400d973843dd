import itertools
import math
import random
import unittest

from tests.judge import judged
from tests.judge import meaning as judge_meaning
from tests.things import NUMBERS, TEXTS, TUPLES, odd_things
from tests.trials import (
    chance_lexicon,
    chance_row,
    comes_by_trial,
    is_sentence_by_trial,
    sentences_by_trial,
    signs_by_hand,
    words_drawings_by_trial,
    world_by_chance,
)
from wordwishes.checker import holds
from wordwishes.drawings import drawing_at
from wordwishes.errors import NoDrawing, NoWord, NoWorld
from wordwishes.lexicontexts import read_lexicon
from wordwishes.papers import paper_comes, paper_means, paper_parted, paper_twofold, paper_words
from wordwishes.rowtexts import read_row

ENGLISH = read_lexicon(
    "goal s; n < np; john: n | np; sees: np.r s np.l | np.r s; the: np n.l; oh: 1 | s s.l; that: s s.l"
)

# Each claim's word, with that of the claim that says the contrary.
CONTRARY = {"sentence": "no sentence", "no sentence": "sentence", "comes": "comes not", "comes not": "comes"}


def ways_of(lexicon, world, words, drawing):
    """How many ways there are to give the other arcs indices."""
    row = signs_by_hand(lexicon, words, drawing[0])
    size_of = dict(world[1])
    return math.prod([size_of[row[i][0]] for i, j in drawing[1] if j != len(row) - 1])


class Looks:
    def looked_at(self, told, *asked):
        """Tells the claim's word; the claim is of just what was asked, and the checker takes it with its paper."""
        self.assertIsInstance(told, tuple)
        claim, paper = told
        self.assertIsInstance(claim, tuple)
        self.assertEqual(claim[1 : 1 + len(asked)], asked)
        self.assertIs(holds(claim, paper), True)
        self.assertIs(judged(claim, paper), True)
        if claim[0] in CONTRARY:
            self.assertIs(holds((CONTRARY[claim[0]],) + claim[1:], paper), False)
        return claim[0]


class PaperWordsTest(Looks, unittest.TestCase):
    def asked(self, lexicon, words):
        told = paper_words(lexicon, words)
        self.assertEqual(len(told[0]), 3)
        return self.looked_at(told, lexicon, words)

    def test_either_way(self):
        for text, right in [
            ("john sees john", "sentence"),
            ("that the john sees", "sentence"),
            ("john john", "no sentence"),
            ("sees", "no sentence"),
            ("oh oh oh", "no sentence"),
        ]:
            self.assertEqual(self.asked(ENGLISH, tuple(text.split(" "))), right)

    def test_no_words(self):
        self.assertEqual(self.asked(ENGLISH, ()), "no sentence")

    def test_by_chance(self):
        chance = random.Random(24)
        told = []
        for time in range(700):
            lexicon = chance_lexicon(chance, 3, 3, 3, "ab")
            words = tuple([chance.choice("abc") for at in range(chance.randrange(4))])
            told.append(self.asked(lexicon, words))
            self.assertEqual(told[-1] == "sentence", is_sentence_by_trial(lexicon, words))
        for name in ["sentence", "no sentence"]:
            self.assertGreater(told.count(name), 40)

    def test_48_signs(self):
        chance = random.Random(48)
        told = []
        for time in range(25):
            entries = []
            for word in "abcdefgh":
                kinds = set()
                while len(kinds) < 4:
                    size = [1, 1, 2, 2][len(kinds)]
                    kinds.add(tuple([(chance.choice("ab"), chance.choice([0, 1])) for at in range(size)]))
                entries.append((word, tuple(sorted(kinds))))
            lexicon = ((("a", "b"),), chance.choice("ab"), tuple(entries))
            words = tuple([chance.choice("abcdefgh") for at in range(8)])
            told.append(self.asked(lexicon, words))
            told.append(self.asked(lexicon, words[:2]))
        self.assertEqual(set(told), {"sentence", "no sentence"})

    def test_no_word(self):
        for words, wrong in [(("x",), "x"), (("john", "", "x"), ""), (("john",) * 7 + ("jon",), "jon")]:
            for question in [paper_words, paper_twofold]:
                with self.assertRaises(NoWord) as caught:
                    question(ENGLISH, words)
                self.assertEqual(caught.exception.word, wrong)


class PaperTwofoldTest(Looks, unittest.TestCase):
    def test_two_drawings_or_more(self):
        self.assertEqual(self.looked_at(paper_twofold(ENGLISH, ("john", "sees")), ENGLISH, ("john", "sees")), "twofold")
        # One choice, with two drawings of its row.
        lexicon = read_lexicon("goal s; a: s n n.r n.rr; b: n.r n.rr n.rrr")
        told = paper_twofold(lexicon, ("a", "b"))
        self.assertEqual(self.looked_at(told, lexicon, ("a", "b")), "twofold")
        arcs = [((0, 7), (1, 2), (3, 6), (4, 5)), ((0, 7), (1, 4), (2, 3), (5, 6))]
        self.assertEqual(sorted(told[1]), [((0, 0), one) for one in arcs])

    def test_none(self):
        for words in [(), ("john",), ("that", "that")]:
            self.assertIsNone(paper_twofold(ENGLISH, words))
        self.assertIsNone(paper_twofold(read_lexicon("goal s; a: s"), ("a",)))

    def test_by_chance(self):
        chance = random.Random(25)
        told = []
        for time in range(500):
            lexicon = chance_lexicon(chance, 3, 3, 2, "ab", (0, 1))
            words = tuple([chance.choice("abc") for at in range(chance.randrange(4))])
            answer = paper_twofold(lexicon, words)
            right = words_drawings_by_trial(lexicon, words)
            told.append(len(right))
            self.assertEqual(answer is not None, len(right) >= 2)
            if answer is not None:
                self.looked_at(answer, lexicon, words)
                self.assertEqual(len(answer[0]), 3)
                self.assertTrue(set(answer[1]) <= set(right))
        for many in [0, 1, 2]:
            self.assertGreater(told.count(many), 10)


class PaperComesTest(Looks, unittest.TestCase):
    def asked(self, order, one, other):
        told = paper_comes(order, one, other)
        self.assertEqual(len(told[0]), 4)
        return self.looked_at(told, order, one, other)

    def test_either_way(self):
        for one, other, right in [
            ("n", "m", "comes"),
            ("m", "n", "comes not"),
            ("1", "1", "comes"),
            ("n m.r", "1", "comes"),
            ("1", "n.r m", "comes"),
            ("1", "n m.r", "comes not"),
            ("n.r n", "1", "comes not"),
            ("n x x.r", "y.r y m", "comes"),
        ]:
            self.assertEqual(self.asked((("n", "m"),), read_row(one), read_row(other)), right)

    def test_by_chance(self):
        chance = random.Random(26)
        told = []
        for time in range(600):
            order = chance.choice([(), (("a", "b"),), (("a", "b"), ("b", "c")), (("b", "a"), ("b", "c"))])
            one = chance_row(chance, 5, "abc", (-1, 0, 1))
            other = chance_row(chance, 4, "abc", (-1, 0, 1))
            if time % 3 == 0:
                other = tuple([(chance.choice("abc"), turn) for mark, turn in one])
            told.append(self.asked(order, one, other))
            self.assertEqual(told[-1] == "comes", comes_by_trial(order, one, other))
        for name in ["comes", "comes not"]:
            self.assertGreater(told.count(name), 30)

    def test_24_signs_together(self):
        chance = random.Random(27)
        told = []
        for time in range(60):
            one = tuple([("a", chance.choice([0, 1])) for at in range(12)])
            told.append(self.asked((), one, one[::-1]))
            other = tuple([("b" if turn == 0 else "a", turn) for mark, turn in one])
            told.append(self.asked((("a", "b"),), one, other))
            told.append(self.asked((), one + one, ()))
        self.assertEqual(set(told), {"comes", "comes not"})


class PaperMeansTest(Looks, unittest.TestCase):
    LEXICON = read_lexicon("goal s; a: n; b: n.r s")
    WORLD = ("sums", (("n", 2), ("s", 1)), ((((1, 2), (1, 3)),), (((1, 1), (-1, 1)),)))
    DRAWING = ((0, 0), ((0, 1), (2, 3)))

    def asked(self, lexicon, world, words, drawing):
        told = paper_means(lexicon, world, words, drawing)
        self.assertEqual(self.looked_at(told, lexicon, world, words, drawing), "means")
        self.assertEqual(len(told[0]), 6)
        self.assertIsNone(told[1])
        self.assertEqual(told[0][5], judge_meaning(lexicon, world, words, drawing))
        return told[0][5]

    def test_a_meaning(self):
        self.assertEqual(self.asked(self.LEXICON, self.WORLD, ("a", "b"), self.DRAWING), ((1, 6),))

    def test_by_chance(self):
        chance = random.Random(28)
        told = set()
        for time in range(250):
            lexicon = chance_lexicon(chance, 3, 3, 3, "ab", (0, 1))
            words = tuple([chance.choice("abc") for at in range(chance.randrange(1, 5))])
            for drawing in words_drawings_by_trial(lexicon, words)[:2]:
                for how in ["sums", "truths"]:
                    world = world_by_chance(chance, lexicon, how)
                    if ways_of(lexicon, world, words, drawing) <= 2048:
                        told.add(self.asked(lexicon, world, words, drawing))
        self.assertGreater(len(told), 20)

    def test_refused_as_the_question(self):
        for thing in odd_things() + NUMBERS + TEXTS + TUPLES:
            with self.assertRaises(NoWord) as caught:
                paper_means(self.LEXICON, thing, ("a", "x", "y"), thing)
            self.assertEqual(caught.exception.word, "x")
            with self.assertRaises(NoWorld):
                paper_means(self.LEXICON, thing, ("a", "b"), thing)
            with self.assertRaises(NoDrawing):
                paper_means(self.LEXICON, self.WORLD, ("a", "b"), thing)
        with self.assertRaises(NoDrawing):
            paper_means(self.LEXICON, self.WORLD, ("b", "a"), self.DRAWING)


class PaperPartedTest(Looks, unittest.TestCase):
    def asked(self, one, other, length):
        told = paper_parted(one, other, length)
        if told is None:
            return None
        self.assertEqual(self.looked_at(told, one, other), "parted")
        self.assertEqual(len(told[0]), 4)
        return told[0][3]

    def test_either_one(self):
        one = read_lexicon("goal s; n: n; v: n.r s")
        other = read_lexicon("goal s; n: n; v: n.r s n.l")
        for length in range(2):
            self.assertIsNone(self.asked(one, other, length))
        for length in range(2, 5):
            self.assertEqual(self.asked(one, other, length), ("n", "v"))
            self.assertEqual(self.asked(other, one, length), ("n", "v"))

    def test_none(self):
        for text in ["goal s; n: n; v: n.r s", "goal s; x: s", "goal s; n: n n n.r; v: n.r s | n.r s x x.r"]:
            self.assertIsNone(paper_parted(read_lexicon("goal s; n: n; v: n.r s"), read_lexicon(text), 4))

    def test_by_chance(self):
        chance = random.Random(29)
        told = []
        for time in range(300):
            one, other = [chance_lexicon(chance, chance.randrange(1, 4), 2, 2, "ab", (0, 1)) for lexicon in "12"]
            length = chance.randrange(4)
            words = self.asked(one, other, length)
            shared = {word for word, kinds in one[2]} & {word for word, kinds in other[2]}
            differ = []
            for size in range(length + 1):
                rows = set(sentences_by_trial(one, size)) ^ set(sentences_by_trial(other, size))
                differ.extend([row for row in sorted(rows) if set(row) <= shared])
            self.assertEqual(words, differ[0] if differ else None)
            told.append(None if words is None else len(words))
        for length in [None, 1, 2]:
            self.assertGreater(told.count(length), 5)


class OthersPapersTest(unittest.TestCase):
    """No paper of one question is one of another."""

    def test_each_with_the_papers_of_all_others(self):
        drawing = drawing_at(ENGLISH, ("john", "sees"), 0)
        told = [
            paper_words(ENGLISH, ("john", "sees")),
            paper_words(ENGLISH, ("john",)),
            paper_words(ENGLISH, ("oh", "oh")),
            paper_comes((("n", "m"),), read_row("n"), read_row("m")),
            paper_comes((("n", "m"),), read_row("m"), read_row("n")),
            paper_twofold(ENGLISH, ("john", "sees")),
            paper_parted(ENGLISH, ENGLISH[:1] + ("n",) + ENGLISH[2:], 1),
            paper_means(
                read_lexicon("goal s; a: s"), ("truths", (("s", 1),), (((True,),),)), ("a",), ((0,), ((0, 1),))
            ),
        ]
        self.assertNotIn(None, told)
        for (claim, own), (other, paper) in itertools.product(told, told):
            self.assertIs(holds(claim, paper), paper is own or judged(claim, paper))
        self.assertIs(holds(told[0][0], drawing), True)


if __name__ == "__main__":
    unittest.main()
