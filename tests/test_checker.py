import ast
import itertools
import pathlib
import random
import unittest

from tests.judge import judged
from tests.judge import meaning as judge_meaning
from tests.things import NUMBERS, TEXTS, TUPLES, bent, deep, odd_things, unshown_things
from tests.trials import (
    chance_lexicon,
    chance_row,
    closed_for_row,
    closed_for_words,
    comes_by_trial,
    is_sentence_by_trial,
    words_drawings_by_trial,
    world_by_chance,
    world_with,
)
from wordwishes.checker import holds
from wordwishes.lexicontexts import read_lexicon
from wordwishes.meanings import meaning
from wordwishes.rowtexts import read_row
from wordwishes.signs import right_wish

ORDER = (("n", "m"),)
LEXICON = read_lexicon("goal s; n < m; a: n; b: m.r s | 1; c: s")
TWOFOLD = read_lexicon("goal s; d: s | s s s.r; e: 1 | s s.l")
SUMS = ("sums", (("m", 2), ("n", 2), ("s", 1)), ((((1, 2), (-1, 3)),), (((2, 1), (3, 4)), ((1, 1),)), (((0, 1),),)))
TRUTHS = ("truths", (("m", 1), ("n", 1), ("s", 2)), (((True,),), ((False, True), (True,)), ((True, False),)))


def rows(*texts):
    return tuple([read_row(text) for text in texts])


def against_words(lexicon, words, more=()):
    return ("closed", closed_for_words(lexicon, words, more))


def against_rows(order, one, other):
    return ("closed", closed_for_row(order, one + right_wish(other)))


def comes_not(order, *texts):
    one, other = rows(*texts)
    return (("comes not", order, one, other), against_rows(order, one, other))


WALK = (("cancel", 1), ("order", 0, "m"), ("grow", 1, ("n", 1), ("m", 0)))
# Pairs that needn't be there, but may.
MORE = [((0, 0, 0), (0, 1, 0)), ((1, 0, 1), (0, 0, 2))]
PARTNER = read_lexicon("goal s; n < m; c: n; b: m.r s; a: n")

TAKEN = [
    (("sentence", LEXICON, ("a", "b")), ((0, 0), ((0, 1), (2, 3)))),
    (("sentence", LEXICON, ("b", "c", "b")), ((1, 0, 1), ((0, 1),))),
    (("sentence", TWOFOLD, ("d",)), ((1,), ((0, 3), (1, 2)))),
    (("no sentence", LEXICON, ("a", "a", "b")), ("counted", "m")),
    (("no sentence", LEXICON, ()), ("counted", "s")),
    (("no sentence", LEXICON, ()), against_words(LEXICON, ())),
    (("no sentence", LEXICON, ("b",)), against_words(LEXICON, ("b",))),
    (("no sentence", LEXICON, ("b",)), against_words(LEXICON, ("b",), MORE)),
    (("twofold", TWOFOLD, ("d",)), (((0,), ((0, 1),)), ((1,), ((0, 3), (1, 2))))),
    (("twofold", TWOFOLD, ("e", "d")), (((1, 0), ((0, 3), (1, 2))), ((0, 0), ((0, 1),)))),
    (("comes", ORDER, *rows("n m m.r", "m n.r m")), WALK),
    (("comes", ORDER, *rows("m.l", "n.l")), (("order", 0, "n"),)),
    (("comes", (), *rows("n", "n")), ()),
    (("comes", (), *rows("x", "x")), (("grow", 1, ("x", 1), ("x", 0)), ("cancel", 0))),
    comes_not((), "n n.l", "1"),
    comes_not(ORDER, "m", "n"),
    (("comes not", ORDER, *rows("n m", "n")), ("counted", "m")),
    (("parted", LEXICON, PARTNER, ("c",)), (((0,), ((0, 1),)), ("counted", "n"))),
    (("parted", PARTNER, LEXICON, ("c",)), (against_words(PARTNER, ("c",)), ((0,), ((0, 1),)))),
    (("means", LEXICON, SUMS, ("a", "b"), ((0, 0), ((0, 1), (2, 3))), ((3, 4),)), None),
    (("means", LEXICON, TRUTHS, ("a", "b"), ((0, 0), ((0, 1), (2, 3))), (False, True)), None),
]

NAMES = ["sentence", "no sentence", "twofold", "comes", "comes not", "parted", "means"]

FALSE_CLAIMS = [
    ("sentence", LEXICON, ()),
    ("sentence", LEXICON, ("b",)),
    ("sentence", LEXICON, ("b", "a")),
    ("sentence", LEXICON, ("c", "c")),
    ("no sentence", LEXICON, ("a", "b")),
    ("no sentence", LEXICON, ("b", "c", "b")),
    ("no sentence", TWOFOLD, ("d",)),
    ("twofold", LEXICON, ("a", "b")),
    ("twofold", LEXICON, ()),
    ("twofold", TWOFOLD, ("e",)),
    ("comes", ORDER, *rows("m", "n")),
    ("comes", ORDER, *rows("n m", "n")),
    ("comes", (), *rows("n n.l", "1")),
    ("comes not", ORDER, *rows("n", "m")),
    ("comes not", ORDER, *rows("n m m.r", "m n.r m")),
    ("comes not", (), *rows("1", "1")),
    ("parted", LEXICON, LEXICON, ("c",)),
    ("parted", LEXICON, PARTNER, ("a", "b")),
    ("parted", LEXICON, PARTNER, ("a",)),
    ("parted", LEXICON, PARTNER, ()),
    ("means", LEXICON, SUMS, ("a", "b"), ((0, 0), ((0, 1), (2, 3))), ((3, 5),)),
    ("means", LEXICON, TRUTHS, ("a", "b"), ((0, 0), ((0, 1), (2, 3))), (True, True)),
]


def is_true(claim):
    """Whether a claim that was taken is true, by plain trial."""
    name, *parts = claim
    if name == "sentence":
        return is_sentence_by_trial(*parts)
    if name == "no sentence":
        return not is_sentence_by_trial(*parts)
    if name == "twofold":
        return len(words_drawings_by_trial(*parts)) > 1
    if name == "comes":
        return comes_by_trial(*parts)
    if name == "comes not":
        return not comes_by_trial(*parts)
    if name == "parted":
        one, other, words = parts
        return is_sentence_by_trial(one, words) != is_sentence_by_trial(other, words)
    return name == "means"


class Looks:
    def looked_at(self, claim, paper):
        """What the checker says, which is what the judge says."""
        told = holds(claim, paper)
        if told is not judged(claim, paper):
            self.fail(f"{told!r}: {claim!r}, {paper!r}")
        return told

    def taken(self, claim, paper):
        self.assertIs(self.looked_at(claim, paper), True)

    def not_taken(self, claim, paper):
        self.assertIs(self.looked_at(claim, paper), False)


class TakenTest(Looks, unittest.TestCase):
    def test_true_claims_with_papers_that_show_it(self):
        for claim, paper in TAKEN:
            with self.subTest(claim=claim, paper=paper):
                self.taken(claim, paper)
                self.assertTrue(is_true(claim))

    def test_each_word_is_among_them(self):
        self.assertEqual({claim[0] for claim, paper in TAKEN}, set(NAMES))
        self.assertEqual({claim[0] for claim in FALSE_CLAIMS}, set(NAMES))

    def test_bent_claims(self):
        told = {name: [] for name in NAMES}
        for claim, paper in TAKEN:
            for thing in bent(claim):
                taken = self.looked_at(thing, paper)
                told[claim[0]].append(taken)
                if taken:
                    self.assertTrue(is_true(thing), thing)
        for name in NAMES:
            self.assertGreater(told[name].count(False), 500, name)
            self.assertGreater(told[name].count(True), 5, name)

    def test_bent_papers(self):
        told = {name: [] for name in NAMES}
        for claim, paper in TAKEN:
            for thing in bent(paper) + NUMBERS + TEXTS + TUPLES:
                told[claim[0]].append(self.looked_at(claim, thing))
        for name in NAMES:
            self.assertGreater(told[name].count(False), 40, name)

    def test_several_places_bent(self):
        chance = random.Random(23)
        for claim, paper in TAKEN:
            claims = bent(claim)
            papers = bent(paper)
            for time in range(300):
                self.looked_at(chance.choice(claims), chance.choice(papers))
            for time in range(20):
                self.looked_at(chance.choice(bent(chance.choice(claims))), paper)
                self.looked_at(claim, chance.choice(bent(chance.choice(papers))))

    def test_claims_and_papers_of_other_questions(self):
        papers = [paper for claim, paper in TAKEN]
        for (claim, own), other in itertools.product(TAKEN, TAKEN):
            for paper in papers:
                self.looked_at(claim, paper)
            self.looked_at((other[0][0],) + claim[1:], own)
            self.looked_at((other[0][0],) + claim[1:], other[1])

    def test_false_claims(self):
        papers = [paper for claim, paper in TAKEN]
        for claim in FALSE_CLAIMS:
            for paper in papers + [(one, other) for one in papers for other in papers]:
                self.not_taken(claim, paper)

    def test_things_that_are_no_claims(self):
        things = odd_things() + NUMBERS + TEXTS + TUPLES + [(thing,) for thing in odd_things() + NAMES]
        claim = TAKEN[0][0]
        things += NAMES + [list(claim), claim + (None,), claim[:-1], TAKEN[0], ("sentences",) + claim[1:]]
        for thing in things:
            for claim, paper in TAKEN:
                self.not_taken(thing, paper)
            self.not_taken(thing, None)
            self.not_taken(thing, thing)

    def test_what_cannot_be_shown_or_compared(self):
        for claim, paper in TAKEN:
            for thing in unshown_things():
                self.assertIs(holds(claim, thing), False)
                self.assertIs(holds(thing, paper), False)
                for at in range(len(claim)):
                    self.assertIs(holds(claim[:at] + (thing,) + claim[at + 1 :], paper), False)
                for at in range(len(paper or ())):
                    self.assertIs(holds(claim, paper[:at] + (thing,) + paper[at + 1 :]), False)

    def test_nothing_is_changed(self):
        for claim, paper in TAKEN:
            before = repr((claim, paper))
            lists = [list(claim), [[paper]], {"a": [1]}]
            kept = repr(lists)
            self.assertIs(holds(claim, paper), True)
            holds(lists[0], lists[1])
            holds(claim, lists[1])
            holds((claim[0], lists[2]) + claim[2:], paper)
            self.assertEqual((repr((claim, paper)), repr(lists)), (before, kept))
            self.assertIs(holds(claim, paper), True)

    def test_tuples_ninety_deep(self):
        for depth in [1, 2, 3, 10, 90]:
            for core in [(), 0, "a", None, [], {}]:
                thing = deep(core, depth)
                for claim, paper in TAKEN:
                    self.not_taken(claim, thing)
                    self.not_taken(thing, paper)
                    for at in range(1, len(claim)):
                        self.looked_at(claim[:at] + (thing,) + claim[at + 1 :], paper)
                    if paper is not None:
                        self.looked_at(claim, paper[:1] + (thing,))
                        self.looked_at(claim, paper + (thing,))
        self.not_taken(TAKEN[0][0], deep([], 90))


class ByChanceTest(Looks, unittest.TestCase):
    """Claims and papers made in some number, whoever might have written them."""

    def test_words(self):
        chance = random.Random(1)
        told = {name: 0 for name in NAMES}
        for time in range(400):
            lexicon = chance_lexicon(chance, 2, 2, 2, "ab", (0, 1))
            words = tuple([chance.choice("ab") for at in range(chance.randrange(4))])
            drawings = words_drawings_by_trial(lexicon, words)
            papers = [("counted", mark) for mark in "abz"] + [against_words(lexicon, words)]
            for paper in papers + drawings + [(one, other) for one in drawings for other in drawings]:
                for name in NAMES:
                    if self.looked_at((name, lexicon, words), paper):
                        told[name] += 1
                        self.assertTrue(is_true((name, lexicon, words)))
            closed = papers[-1]
            if self.looked_at(("no sentence", lexicon, words), closed):
                for at in range(len(closed[1])):
                    self.not_taken(("no sentence", lexicon, words), ("closed", closed[1][:at] + closed[1][at + 1 :]))
        for name in ["sentence", "no sentence", "twofold"]:
            self.assertGreater(told[name], 20, name)

    def test_more_pairs_than_the_least(self):
        chance = random.Random(2)
        told = []
        for time in range(150):
            lexicon = chance_lexicon(chance, 2, 2, 2, "ab")
            words = tuple([chance.choice("ab") for at in range(chance.randrange(1, 4))])
            least = closed_for_words(lexicon, words)
            places = sorted({place for pair in least for place in pair})
            more = tuple([(chance.choice(places), chance.choice(places)) for at in range(chance.randrange(1, 4))])
            told.append(self.looked_at(("no sentence", lexicon, words), against_words(lexicon, words, more)))
            self.looked_at(("no sentence", lexicon, words), ("closed", tuple(sorted(set(least + more)))))
        self.assertGreater(told.count(True), 10)
        self.assertGreater(told.count(False), 10)

    def test_rows(self):
        chance = random.Random(3)
        told = {"comes": 0, "comes not": 0}
        for time in range(400):
            order = chance.choice([(), (("a", "b"),), (("b", "a"), ("b", "c"))])
            one, other = [chance_row(chance, 4, "abc") for row in "12"]
            papers = [("counted", mark) for mark in "abc"] + [against_rows(order, one, other), ()]
            for mark in "abc":
                papers.append(tuple([("order", at, mark) for at in range(len(one))]))
                papers.append((("cancel", chance.randrange(3)),))
            for paper in papers:
                for name in told:
                    if self.looked_at((name, order, one, other), paper):
                        told[name] += 1
                        self.assertTrue(is_true((name, order, one, other)))
        self.assertGreater(told["comes"], 10)
        self.assertGreater(told["comes not"], 100)

    def test_walks_by_chance(self):
        chance = random.Random(4)
        for time in range(150):
            order = (("a", "b"), ("b", "c"))
            one = chance_row(chance, 6, "abc", (-1, 0, 1))
            row, walk = one, []
            for step in range(chance.randrange(12)):
                place = chance.randrange(len(row) + 1)
                turn = chance.choice([-1, 0, 1])
                marks = ["ab", "bc", "ac", "aa", "cc"][chance.randrange(5)][:: 1 if turn % 2 == 0 else -1]
                walk.append(("grow", place, (marks[0], turn + 1), (marks[1], turn)))
                row = row[:place] + walk[-1][2:] + row[place:]
            self.taken(("comes", order, one, row), tuple(walk))
            self.looked_at(("comes", order, one, row), tuple(walk[::-1]))
            self.looked_at(("comes", order, one, row), tuple(walk[1:]))
            self.looked_at(("comes", order[:1], one, row), tuple(walk))

    def test_parted(self):
        chance = random.Random(5)
        told = 0
        for time in range(250):
            one, other = [chance_lexicon(chance, 2, 2, 2, "ab", (0, 1)) for lexicon in "12"]
            words = tuple([chance.choice("ab") for at in range(chance.randrange(3))])
            papers = []
            for lexicon in [one, other]:
                drawings = words_drawings_by_trial(lexicon, words)
                papers.append(drawings[:1] + [against_words(lexicon, words), ("counted", "a"), ("counted", "b")])
            for paper in itertools.product(*papers):
                if self.looked_at(("parted", one, other, words), paper):
                    told += 1
                    self.assertTrue(is_true(("parted", one, other, words)))
                self.looked_at(("parted", other, one, words), paper)
                self.looked_at(("parted", other, one, words), paper[::-1])
        self.assertGreater(told, 50)

    def test_means(self):
        chance = random.Random(6)
        told = 0
        for time in range(400):
            lexicon = chance_lexicon(chance, 2, 2, 3, "ab", (0, 1))
            words = tuple([chance.choice("ab") for at in range(chance.randrange(1, 4))])
            for drawing in words_drawings_by_trial(lexicon, words)[:2]:
                for how in ["sums", "truths"]:
                    world = world_by_chance(chance, lexicon, how)
                    size = dict(world[1])[lexicon[1]]
                    parts = [(0, 1), (1, 1), (1, 2), (-1, 2)] if how == "sums" else [True, False]
                    for things in itertools.product(parts, repeat=size):
                        told += self.looked_at(("means", lexicon, world, words, drawing, things), None)
        self.assertGreater(told, 15)


class RowBoundsTest(Looks, unittest.TestCase):
    def test_60_signs_and_61(self):
        for one, other, right in [(60, 60, True), (61, 61, False), (0, 0, True)]:
            row = (("a", 3),) * one
            self.assertIs(self.looked_at(("comes", (), row, row[:other]), ()), right)

    def test_one_of_the_rows_beyond(self):
        pair = (("x", 0), ("x", 1))
        for many, right in [(58, True), (59, False), (60, False)]:
            row = (("a", 3),) * many
            cancelled = ("comes", (), row + pair, row)
            self.assertIs(self.looked_at(cancelled, (("cancel", many),)), right)
            grown = ("comes", (), row, row + pair[::-1])
            self.assertIs(self.looked_at(grown, (("grow", many, ("x", 1), ("x", 0)),)), right)

    def test_rows_longer_on_the_way(self):
        # Of each pair that has grown one sign goes out with the sign ahead of it, the other one stays for it.
        row = (("b", 1),) + (("a", 3),) * 59
        grows = (("grow", 1, ("b", 2), ("b", 1)),) * 40
        walk = grows + (("cancel", 0),) * 40
        self.taken(("comes", (), row, row), walk)
        self.not_taken(("comes", (), row, row), walk[:-1])
        self.not_taken(("comes", (), row, row), walk + (("cancel", 0),))

    def test_walks_of_more_than_a_thousand_steps(self):
        row = (("b", 1), ("c", 5))
        walk = (("grow", 1, ("b", 2), ("b", 1)), ("cancel", 0), ("order", 1, "c")) * 1500
        self.taken(("comes", (), row, row), walk)
        self.not_taken(("comes", (), row, row), walk + (("cancel", 0),))
        self.not_taken(("comes", (), row, row), walk[:2000] + (None,) + walk[2000:])

    def test_comes_not_of_60_signs_and_61(self):
        for many in [60, 61]:
            for one, other in [(many, 60), (60, many), (many, many)]:
                row = (("a", 1), ("b", 0)) * (one // 2) + (("a", 0),) * (one % 2)
                claim = ("comes not", (), row, (("a", 0),) * other)
                right = one <= 60 and other <= 60
                self.assertIs(self.looked_at(claim, against_rows(*claim[1:])), right)
                self.assertIs(self.looked_at(claim, ("counted", "b")), right)

    def test_rows_with_very_many_closed_pairs(self):
        row = (("a", 0), ("a", 1)) * 29 + (("a", 1), ("a", 0))
        claim = ("comes not", (), row, ())
        paper = against_rows((), row, ())
        self.assertGreater(len(paper[1]), 400)
        self.taken(claim, paper)
        for at in range(0, len(paper[1]), 50):
            self.not_taken(claim, ("closed", paper[1][:at] + paper[1][at + 1 :]))

    def test_pairs_that_go_back_are_none(self):
        for text, pairs in [("a", ((1, 0),)), ("a b", ((1, 0),)), ("a b", ((2, 0), (2, 1))), ("a b.r", ((2, 1),))]:
            row = read_row(text)
            least = closed_for_row((), row)
            self.taken(("comes not", (), row, ()), ("closed", least))
            self.not_taken(("comes not", (), row, ()), ("closed", tuple(sorted(least + pairs))))

    def test_the_bound_of_turns(self):
        row = (("a", 99), ("b", -99))
        self.taken(("comes", (), row, row), ())
        for turn in [100, -100]:
            far = (("a", turn),)
            self.not_taken(("comes", (), far, far), ())
            self.not_taken(("comes not", (), far, ()), ("counted", "a"))
            grown = (("grow", 0, ("a", turn), ("a", turn - 1)), ("cancel", 0))
            self.not_taken(("comes", (), row, row), grown)


class WordBoundsTest(Looks, unittest.TestCase):
    # w has four kinds of five signs, g three kinds with ten signs, f one sign, e none.
    LEXICON = read_lexicon(
        "goal s; w: s a a.r b b.r | s.r a a.r b b.r | s c c.r b b.r | s c c.r c c.r;"
        " e: 1; f: 1 | q; g: 1 | a b c a b | b a c b a; c: s"
    )
    ARCS = ((0, 5), (1, 2), (3, 4), (6, 7), (8, 9), (10, 15), (11, 12), (13, 14))

    def looks(self, name, words, paper, right):
        self.assertIs(self.looked_at((name, self.LEXICON, words), paper), right)

    def test_60_signs_and_61(self):
        self.looks("sentence", ("w",) * 3, ((0, 1, 0), self.ARCS), True)
        self.looks("sentence", ("w", "w", "w", "e"), ((0, 1, 0, 0), self.ARCS), True)
        # It is a sentence all the same, but beyond what is taken.
        self.looks("sentence", ("w", "w", "w", "f"), ((0, 1, 0, 0), self.ARCS), False)
        self.looks("sentence", ("f", "w", "w", "w"), ((0, 0, 1, 0), self.ARCS), False)

    def test_each_time_that_a_word_stands_there(self):
        for words, right in [
            (("w", "g", "w", "g"), True),
            (("g", "g", "g", "g", "g", "g"), True),
            (("w", "g", "w", "g", "f"), False),
            (("w", "w", "g", "f", "g"), False),
            (("g",) * 7, False),
            (("w",) * 4, False),
        ]:
            self.looks("no sentence", words, ("counted", "s"), right)

    def test_closed_papers_of_60_signs_and_61(self):
        for words in [("w", "w"), ("w", "w", "g", "g"), ("w", "g", "g", "w", "e")]:
            self.looks("no sentence", words, against_words(self.LEXICON, words), True)
        words = ("w", "f", "g", "g", "w")
        self.looks("no sentence", words, against_words(self.LEXICON, words), False)

    def test_twofold(self):
        two = (((0, 1, 0), self.ARCS), ((2, 1, 0), self.ARCS))
        self.looks("twofold", ("w",) * 3, two, True)
        more = tuple([(choice + (0,), arcs) for choice, arcs in two])
        self.looks("twofold", ("w", "w", "w", "e"), more, True)
        self.looks("twofold", ("w", "w", "w", "f"), more, False)

    def test_eight_words_and_nine(self):
        for many_words, right in [(8, True), (9, False)]:
            empty = many_words - 1
            words = ("e",) * empty + ("c",)
            drawing = ((0,) * many_words, ((0, 1),))
            self.looks("sentence", words, drawing, right)
            self.looks("no sentence", ("e",) * many_words, ("counted", "s"), right)
            self.looks("no sentence", ("e",) * many_words, against_words(self.LEXICON, ("e",) * many_words), right)
            two = (((0,) * many_words, ((0, 1),)), ((1,) + (0,) * empty, ((0, 3), (1, 2))))
            lexicon = read_lexicon("goal s; d: s | s s s.r; e: 1; c: s")
            self.assertIs(self.looked_at(("twofold", lexicon, ("d",) + ("e",) * empty), two), right)
            other = read_lexicon("goal x; e: 1; c: s")
            parted = ("parted", self.LEXICON, other, words)
            self.assertIs(self.looked_at(parted, (drawing, ("counted", "x"))), right)
            world = ("truths", (("s", 1),), (((True,),), ((True,),)))
            means = ("means", read_lexicon("goal s; c: s; e: 1"), world, words, drawing, (True,))
            self.assertIs(self.looked_at(means, None), right)

    def test_both_lexicons_of_parted(self):
        order, goal, entries = self.LEXICON
        words = ("w", "w", "w", "f")
        light = {word: kinds for word, kinds in entries} | {"f": ((),)}
        lexicons = {60: (order, goal, tuple(light.items())), 61: self.LEXICON}
        drawing = ((0, 1, 0, 0), self.ARCS)
        for one in [60, 61]:
            for other in [60, 61]:
                against = (order, "z", lexicons[other][2])
                right = (one, other) == (60, 60)
                claim = ("parted", lexicons[one], against, words)
                self.assertIs(self.looked_at(claim, (drawing, ("counted", "z"))), right)
                claim = ("parted", against, lexicons[one], words)
                self.assertIs(self.looked_at(claim, (("counted", "z"), drawing)), right)

    def test_marks_that_hang_together_through_several_pairs(self):
        order = (("n", "o"), ("m", "o"), ("m", "p"), ("q", "p"))
        for mark in "nompqxs":
            for texts, right in [("n q > 1", True), ("n q.r > 1", False), ("n.r n.l > q", True), ("n > q", False)]:
                claim = ("comes not", order, *rows(*texts.split(" > ")))
                self.assertIs(self.looked_at(claim, ("counted", mark)), right and mark in "nompq")
            lexicon = (order, "s", (("a", rows("n s", "q s o m.r")), ("b", rows("m.rr", "q.l n p"))))
            claim = ("no sentence", lexicon, ("a", "b"))
            self.assertIs(self.looked_at(claim, ("counted", mark)), mark in "nompq")
            # With one choice that is even, and with all.
            lexicon = (order, "s", (("a", rows("n s", "q s o m.r")), ("b", rows("m.rr", "q.l"))))
            self.assertIs(self.looked_at(("no sentence", lexicon, ("a", "b")), ("counted", mark)), False)

    def test_papers_of_no_words(self):
        for text in ["goal s; a: s", "goal s; s < s; a: 1", "goal s; q < s; s < q; a: q | q.r"]:
            lexicon = read_lexicon(text)
            claim = ("no sentence", lexicon, ())
            pairs = (((0, 0, 0), (0, 0, 0)), ((0, 0, 1), (0, 0, 1)))
            self.taken(claim, ("closed", pairs))
            self.taken(claim, ("closed", pairs[:1] + (((0, 0, 1), (0, 0, 0)),) + pairs[1:]))
            self.not_taken(claim, ("closed", pairs[:1] + (((0, 0, 0), (0, 0, 1)),) + pairs[1:]))
            self.not_taken(claim, ("closed", pairs[:1]))
            self.not_taken(claim, ("closed", ()))
            self.taken(claim, ("counted", "s"))
            self.not_taken(claim, ("counted", "x"))
            for paper in [((), ()), ((), ((0, 1),)), ((), ((0, 0),)), None, ()]:
                self.not_taken(("sentence", lexicon, ()), paper)


class WayBoundsTest(Looks, unittest.TestCase):
    LEXICON = read_lexicon("goal s; a: n n n n n; b: n.r n.r n.r n.r n.r; c: n n.r m m.r s")
    WORDS = ("a", "b", "a", "b", "c")

    def drawing(self):
        nested = [(at, 9 - at) for at in range(5)]
        return ((0,) * 5, tuple(nested + [(i + 10, j + 10) for i, j in nested] + [(20, 21), (22, 23), (24, 25)]))

    def asked(self, size_of, right):
        chance = random.Random(2048)
        for how in ["sums", "truths"]:
            world = world_with(chance, self.LEXICON, how, size_of)
            things = meaning(self.LEXICON, world, self.WORDS, self.drawing())
            claim = ("means", self.LEXICON, world, self.WORDS, self.drawing())
            self.assertIs(self.looked_at(claim + (things,), None), right)
            self.assertIs(self.looked_at(claim + (things[::-1] + things[:1],), None), False)
            self.assertIs(self.looked_at(claim + (None,), None), False)

    def test_2048_ways_and_more(self):
        self.asked({"n": 2, "m": 1, "s": 1}, True)
        self.asked({"n": 2, "m": 2, "s": 1}, False)

    def test_the_goals_arc_is_not_among_them(self):
        self.asked({"n": 2, "m": 1, "s": 3}, True)
        self.asked({"n": 2, "m": 2, "s": 3}, False)
        self.asked({"n": 1, "m": 3, "s": 3}, True)

    def test_far_too_many_ways_to_go_through(self):
        world = world_with(random.Random(1), self.LEXICON, "truths", {"n": 3, "m": 3, "s": 3})
        claim = ("means", self.LEXICON, world, self.WORDS, self.drawing())
        for things in itertools.product([True, False], repeat=3):
            self.assertIs(holds(claim + (things,), None), False)

    def test_fractions_of_many_figures(self):
        lexicon = read_lexicon("goal s; a: s s.l; b: s")
        high, low = 10**30 - 1, 10**30 - 2
        cells = ((high, low), (-low, high), (1, high), (10**29, 10**29 + 1))
        words = ("a",) * 7 + ("b",)
        arcs = tuple(sorted([(2 * at + 1, 2 * at + 2) for at in range(7)] + [(0, 15)]))
        for more, right in [(0, True), (1, False)]:
            world = ("sums", (("s", 2),), ((cells,), (((low, high + more), (1, low)),)))
            claim = ("means", lexicon, world, words, ((0,) * 8, arcs))
            told = judge_meaning(lexicon, world, words, ((0,) * 8, arcs))
            self.assertIs(self.looked_at(claim + (told,), None), right)
            (top, bottom), last = told
            self.assertGreater(bottom, 10**100)
            wrongs = [(top + 1, bottom), (2 * top, 2 * bottom), (-top, -bottom), (top, bottom, 1), top, (10**6000, 7)]
            for wrong in wrongs:
                self.assertIs(holds(claim + ((wrong, last),), None), False)


class WorldTest(Looks, unittest.TestCase):
    """Worlds of claims that are right but for the world."""

    LEXICON = read_lexicon("goal s; n < m; m < o; a: n; b: m.r s; c: o")
    WORDS = ("a", "b")
    DRAWING = ((0, 0), ((0, 1), (2, 3)))

    def asked(self, world, things, right):
        claim = ("means", self.LEXICON, world, self.WORDS, self.DRAWING, things)
        self.assertIs(self.looked_at(claim, None), right)

    def test_sizes(self):
        chance = random.Random(17)
        for how in ["sums", "truths"]:
            for low, high, last, goal, right in [
                (2, 2, 2, 1, True),
                (3, 3, 3, 3, True),
                (4, 4, 4, 1, False),
                (2, 2, 2, 4, False),
                (0, 0, 0, 1, False),
                (2, 2, 2, 0, False),
                (1, 2, 2, 1, False),
                (2, 2, 1, 1, False),
                (2, 1, 1, 1, False),
            ]:
                size_of = {"n": low, "m": high, "o": last, "s": goal}
                world = world_with(chance, self.LEXICON, how, size_of)
                things = [((0, 1),) * goal, ((1, 1),) * goal, (True,) * goal, (False,) * goal]
                if right:
                    things.append(judge_meaning(self.LEXICON, world, self.WORDS, self.DRAWING))
                told = [holds(("means", self.LEXICON, world, self.WORDS, self.DRAWING, one), None) for one in things]
                self.assertIs(any(told), right)

    def test_figures_of_fractions(self):
        sizes = (("m", 1), ("n", 1), ("o", 1), ("s", 1))
        for cell, right in [
            ((10**30 - 1, 1), True),
            ((1 - 10**30, 1), True),
            ((1, 10**30 - 1), True),
            ((10**30, 1), False),
            ((-(10**30), 1), False),
            ((1, 10**30), False),
            ((10**5000, 1), False),
            ((0, 1), True),
            ((0, 2), False),
            ((0, 0), False),
            ((1, 0), False),
            ((2, 4), False),
            ((-2, -1), False),
            ((1, -1), False),
            ((True, 1), False),
            ((1, True), False),
            ([1, 1], False),
            (1, False),
        ]:
            world = ("sums", sizes, (((cell,),), (((1, 1),),), (((1, 1),),)))
            # What the drawing would mean, and, of a cell of no word that is there, what it means all the same.
            claim = ("means", self.LEXICON, world, self.WORDS, self.DRAWING, (cell,))
            self.assertIs(holds(claim, None), right)
            world = ("sums", sizes, ((((1, 1),),), (((1, 1),),), ((cell,),)))
            claim = ("means", self.LEXICON, world, self.WORDS, self.DRAWING, ((1, 1),))
            self.assertIs(holds(claim, None), right)

    def test_tables_of_another_form(self):
        sizes = (("m", 2), ("n", 2), ("o", 2), ("s", 1))
        two = ((1, 1), (1, 1))
        right = ((two,), (two,), (two,))
        self.asked(("sums", sizes, right), ((2, 1),), True)
        for last in [(), (two, two), ((two[:1]),), (two + two,), ((),), (list(two),), [two], None]:
            self.asked(("sums", sizes, right[:2] + (last,)), ((2, 1),), False)
        for tables in [right[:2], right + right[:1], list(right), (), (right,)]:
            self.asked(("sums", sizes, tables), ((2, 1),), False)
        for how in ["truths", "sum", "SUMS", "", None, ["sums"], ("sums",)]:
            self.asked((how, sizes, right), ((2, 1),), False)
        for wrong in [sizes[::-1], sizes[:3], sizes + (("t", 1),), sizes[1:], list(sizes), dict(sizes)]:
            self.asked(("sums", wrong, right), ((2, 1),), False)


class ImportTest(unittest.TestCase):
    LATER = set("sentences drawings comings sortedwalks plainrows worlds meanings changes books learning".split())

    def drawn_by(self, name):
        path = pathlib.Path(__file__).resolve().parent.parent / "wordwishes" / (name + ".py")
        tree = ast.parse(path.read_text(encoding="utf-8"))
        told = set()
        for node in ast.walk(tree):
            self.assertNotIsInstance(node, ast.Import)
            if isinstance(node, ast.ImportFrom):
                self.assertTrue(node.module.startswith("wordwishes."))
                told.add(node.module.split(".")[1])
        return told

    def test_the_checker_draws_from_nothing_of_stages_5_to_11(self):
        known = set()
        fresh = {"checker"}
        while fresh:
            known |= fresh
            fresh = set().union(*[self.drawn_by(name) for name in sorted(fresh)]) - known
        self.assertIn("walks", known)
        self.assertEqual(known & (self.LATER | {"charts", "places", "papers", "desk"}), set())


if __name__ == "__main__":
    unittest.main()
