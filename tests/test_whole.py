"""Point 3: what the house tells the checker takes, and what is told of several things fits."""

import random
import unittest

from tests.judge import judged
from tests.trials import (
    chance_lexicon,
    chance_row,
    is_sentence_by_trial,
    is_sorted_walk,
    words_drawings_by_trial,
    world_by_chance,
)
from wordwishes.books import parting, sentences_of
from wordwishes.changes import mirrored, mirrored_drawing, put_in, shortened, taken_out
from wordwishes.checker import holds
from wordwishes.comings import comes
from wordwishes.drawings import drawing_at, many, number_of
from wordwishes.errors import NoLexicon
from wordwishes.learning import learnt
from wordwishes.lexicontexts import read_lexicon, show_lexicon
from wordwishes.meanings import meaning
from wordwishes.papers import paper_comes, paper_means, paper_parted, paper_twofold, paper_words
from wordwishes.sentences import sentence
from wordwishes.sortedwalks import sorted_walk
from wordwishes.walks import cancels_in, gone

ORDERS = [(), (("a", "b"),), (("a", "b"), ("b", "c")), (("b", "a"), ("b", "c"), ("a", "b"))]


def chance_words(chance, most, words="abc"):
    return tuple([chance.choice(words) for at in range(chance.randrange(most + 1))])


def chance_walk(chance, order, row, steps):
    """A walk from the row, of so many steps by chance, and the row to which it leads."""
    walk = []
    for time in range(steps):
        places = cancels_in(order, row)
        if places and chance.random() < 0.5:
            step = ("cancel", chance.choice(places))
        elif row and chance.random() < 0.3:
            place = chance.randrange(len(row))
            mark, turn = row[place]
            pairs = [(low, high) if turn % 2 == 0 else (high, low) for low, high in order]
            step = ("order", place, chance.choice([mark] + [after for before, after in pairs if before == mark]))
        else:
            turn = chance.choice([-1, 0, 1])
            low, high = chance.choice(list(order) + [("c", "c"), ("a", "a")])
            one, other = (low, high) if turn % 2 == 0 else (high, low)
            step = ("grow", chance.randrange(len(row) + 1), (one, turn + 1), (other, turn))
        row = gone(order, row, (step,))
        walk.append(step)
    return tuple(walk), row


class TakenTest(unittest.TestCase):
    def taken(self, claim, paper):
        self.assertIs(holds(claim, paper), True, (claim, paper))
        self.assertIs(judged(claim, paper), True)

    def test_sentences(self):
        chance = random.Random(31)
        for time in range(300):
            lexicon = chance_lexicon(chance, 3, 3, 3)
            words = chance_words(chance, 5)
            name, paper = sentence(lexicon, words)
            claim = ("sentence" if name == "sentence" else "no sentence", lexicon, words)
            self.taken(claim, paper)
            self.assertEqual(paper_words(lexicon, words)[0], claim)

    def test_all_drawings(self):
        chance = random.Random(32)
        told = 0
        for time in range(400):
            lexicon = chance_lexicon(chance, 3, 4, 3, "ab", (0, 1))
            words = chance_words(chance, 5)
            drawings = [drawing_at(lexicon, words, number) for number in range(min(many(lexicon, words), 20))]
            for number, drawing in enumerate(drawings):
                self.taken(("sentence", lexicon, words), drawing)
                self.assertEqual(number_of(lexicon, words, drawing), number)
                if number > 0:
                    self.taken(("twofold", lexicon, words), (drawings[number - 1], drawing))
            self.assertEqual(paper_twofold(lexicon, words) is None, len(drawings) < 2)
            told += len(drawings)
        self.assertGreater(told, 100)

    def test_comings(self):
        chance = random.Random(33)
        for time in range(300):
            order = chance.choice(ORDERS)
            one, other = [chance_row(chance, 6, "abc", (-1, 0, 1)) for row in "12"]
            name, paper = comes(order, one, other)
            self.taken(("comes" if name == "comes" else "comes not", order, one, other), paper)

    def test_walks_and_sorted_walks(self):
        chance = random.Random(34)
        longer = 0
        for time in range(300):
            order = chance.choice(ORDERS)
            one = chance_row(chance, 8, "abc", (-1, 0, 1))
            walk, other = chance_walk(chance, order, one, chance.randrange(9))
            if len(one) + len(other) <= 24:
                self.taken(("comes", order, one, other), walk)
                anew = sorted_walk(order, one, walk)
                self.assertTrue(is_sorted_walk(anew))
                self.taken(("comes", order, one, other), anew)
                self.taken(*paper_comes(order, one, other))
                self.assertEqual(paper_comes(order, one, other)[0][0], "comes")
                longer += len(walk) > len(anew)
        self.assertGreater(longer, 20)

    def test_meanings(self):
        chance = random.Random(35)
        told = 0
        for time in range(400):
            lexicon = chance_lexicon(chance, 3, 2, 3, "ab", (0, 1))
            words = chance_words(chance, 4)
            for number in range(min(many(lexicon, words), 2)):
                drawing = drawing_at(lexicon, words, number)
                for how in ["sums", "truths"]:
                    world = world_by_chance(chance, lexicon, how, (1, 2))
                    claim = ("means", lexicon, world, words, drawing, meaning(lexicon, world, words, drawing))
                    self.taken(claim, None)
                    self.assertEqual(paper_means(lexicon, world, words, drawing), (claim, None))
                    told += 1
        self.assertGreater(told, 50)

    def test_lexicons_mirrored(self):
        chance = random.Random(36)
        for time in range(200):
            lexicon = chance_lexicon(chance, 3, 3, 3, "ab")
            words = chance_words(chance, 4)
            there = mirrored(lexicon)
            claim, paper = paper_words(there, words[::-1])
            self.taken(claim, paper)
            self.assertEqual(claim[0], paper_words(lexicon, words)[0][0])
            if claim[0] == "sentence":
                drawing = drawing_at(lexicon, words, 0)
                self.taken(claim, mirrored_drawing(lexicon, words, drawing))

    def test_lexicons_shortened(self):
        chance = random.Random(37)
        told = []
        for time in range(400):
            lexicon = chance_lexicon(chance, 3, 2, 5, "a", (0, 1, 2))
            words = chance_words(chance, 4)
            try:
                short = shortened(lexicon)
            except NoLexicon:
                continue
            self.taken(*paper_words(lexicon, words))
            self.taken(*paper_words(short, words))
            names = [paper_words(one, words)[0][0] for one in [short, lexicon]]
            told.append(names)
            self.assertNotEqual(names, ["sentence", "no sentence"])
        self.assertGreater(told.count(["sentence", "sentence"]), 10)

    def test_words_put_in_and_taken_out(self):
        chance = random.Random(38)
        for time in range(200):
            lexicon = chance_lexicon(chance, 3, 2, 3, "ab", (0, 1))
            word, kinds = chance_lexicon(chance, 1, 2, 2, "ab", (0, 1))[2][0]
            for changed in [put_in(lexicon, word, kinds), put_in(lexicon, "w", kinds), taken_out(lexicon, "c")]:
                words = chance_words(chance, 4, [one for one, rows in changed[2]])
                self.taken(*paper_words(changed, words))
                told = paper_parted(lexicon, changed, 2)
                if told is not None:
                    self.taken(*told)
                    self.assertEqual(told[0][3], parting(lexicon, changed, 2))

    def test_lexicons_compared(self):
        chance = random.Random(39)
        told = []
        for time in range(150):
            one, other = [chance_lexicon(chance, 3, 2, 2, "ab", (0, 1)) for lexicon in "12"]
            words = parting(one, other, 3)
            told.append(words)
            for lexicon in [one, other]:
                for row in sentences_of(lexicon, 2):
                    self.taken(*paper_words(lexicon, row))
                    self.assertEqual(paper_words(lexicon, row)[0][0], "sentence")
            if words is not None:
                self.taken(*paper_parted(one, other, 3))
                self.taken(*paper_parted(other, one, 3))
                names = {paper_words(lexicon, words)[0][0] for lexicon in [one, other]}
                self.assertEqual(names, {"sentence", "no sentence"})
        self.assertGreater(len(set(told)), 4)

    def test_kinds_learnt(self):
        chance = random.Random(40)
        told = 0
        for time in range(150):
            lexicon = chance_lexicon(chance, 2, 2, 2, "ab")
            book = tuple([chance_words(chance, 3, "abww") + ("w",) for row in range(chance.randrange(1, 3))])
            kinds = learnt(lexicon, "w", book, 2)
            for kind in kinds:
                changed = put_in(lexicon, "w", (kind,))
                for row in book:
                    claim, paper = paper_words(changed, row)
                    self.assertEqual(claim[0], "sentence")
                    self.taken(claim, paper)
            told += len(kinds)
            if not kinds:
                # Of a kind that isn't learnt some row is none.
                changed = put_in(lexicon, "w", ((),))
                self.assertIn("no sentence", [paper_words(changed, row)[0][0] for row in book])
        self.assertGreater(told, 30)

    def test_lexicons_written_and_read(self):
        chance = random.Random(41)
        for time in range(100):
            lexicon = chance_lexicon(chance, 3, 3, 3)
            self.assertEqual(read_lexicon(show_lexicon(lexicon)), lexicon)


class TrueTest(unittest.TestCase):
    def test_words_are_told_as_a_sentence_just_where_there_is_a_drawing(self):
        chance = random.Random(42)
        told = []
        for time in range(300):
            lexicon = chance_lexicon(chance, 3, 2, 3, "ab", (0, 1))
            words = chance_words(chance, 3)
            drawings = words_drawings_by_trial(lexicon, words)
            told.append(sentence(lexicon, words)[0] == "sentence")
            self.assertEqual(told[-1], len(drawings) > 0)
            self.assertEqual(told[-1], is_sentence_by_trial(lexicon, words))
            self.assertEqual(many(lexicon, words), len(drawings))
            if len(words) < 3:
                self.assertEqual(words in sentences_of(lexicon, len(words)), told[-1])
        self.assertGreater(told.count(True), 20)

    def test_the_checker_takes_no_claim_and_its_contrary(self):
        chance = random.Random(43)
        for time in range(200):
            lexicon = chance_lexicon(chance, 3, 2, 2, "ab", (0, 1))
            words = chance_words(chance, 3)
            claim, paper = paper_words(lexicon, words)
            contrary = "no sentence" if claim[0] == "sentence" else "sentence"
            others = [("counted", mark) for mark in "abc"] + words_drawings_by_trial(lexicon, words) + [paper]
            for other in others:
                self.assertIs(holds((contrary, lexicon, words), other), False)


if __name__ == "__main__":
    unittest.main()
