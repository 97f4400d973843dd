import itertools
import random
import unittest

from tests.things import NUMBERS, TUPLES, AlikeToAll, odd_things, unshown_things
from tests.trials import chance_lexicon, is_sentence_by_trial, marks_by_hand
from wordwishes.changes import mirrored, put_in
from wordwishes.errors import NoLexicon, NoWord
from wordwishes.learning import learnt
from wordwishes.lexicons import is_lexicon, marks_of
from wordwishes.lexicontexts import read_lexicon
from wordwishes.rowtexts import show_row
from wordwishes.sentences import sentence
from wordwishes.signs import mirror

SMALL = read_lexicon("goal s; john: n; mary: n")


def with_only_kind(lexicon, word, kind):
    entries = [(one, (kind,)) if one == word else (one, kinds) for one, kinds in lexicon[2]]
    if word not in [one for one, kinds in entries]:
        entries.append((word, (kind,)))
    return (lexicon[0], lexicon[1], tuple(entries))


def learnt_by_trial(lexicon, word, book, size):
    """By trial of all kinds, those of fewer signs first."""
    signs = [(mark, turn) for mark in marks_by_hand(lexicon) for turn in (1, 0, -1)]
    for many_signs in range(size + 1):
        kinds = []
        for kind in itertools.product(signs, repeat=many_signs):
            changed = with_only_kind(lexicon, word, kind)
            if all([is_sentence_by_trial(changed, row) for row in book]):
                kinds.append(kind)
        if kinds:
            return sorted(kinds)
    return []


def of_words(many_words):
    return ((), "s", tuple([("abcdefghij"[at], ((("n", 0),),)) for at in range(many_words)]))


class Looks:
    def looked_at(self, lexicon, word, book, size):
        self.assertIs(is_lexicon(lexicon), True)
        told = learnt(lexicon, word, book, size)
        self.assertIsInstance(told, list)
        self.assertEqual(told, learnt_by_trial(lexicon, word, book, size))
        for kind in told:
            self.assertIsInstance(kind, tuple)
            changed = put_in(lexicon, word, (kind,))
            for row in book:
                self.assertEqual(sentence(changed, row)[0], "sentence")
        return told

    def texts(self, lexicon, word, book, size):
        rows = tuple([tuple(row.split(" ")) for row in book])
        return [show_row(kind) for kind in self.looked_at(lexicon, word, rows, size)]


class LearntTest(Looks, unittest.TestCase):
    def test_a_word_that_the_lexicon_has_not(self):
        self.assertEqual(self.texts(SMALL, "runs", ["john runs"], 2), ["n.r s"])
        self.assertEqual(self.texts(SMALL, "runs", ["john runs", "mary runs"], 2), ["n.r s"])
        self.assertEqual(self.texts(SMALL, "yes", ["yes"], 2), ["s"])

    def test_a_word_that_the_lexicon_has(self):
        self.assertEqual(self.texts(SMALL, "mary", ["mary"], 2), ["s"])
        # Its own kinds give way, so that they help nothing.
        lexicon = read_lexicon("goal s; n < s; a: n | s s.l; b: n")
        self.assertEqual(self.texts(lexicon, "a", ["a a b"], 2), ["1"])
        self.assertEqual(self.texts(lexicon, "a", ["a", "a b"], 2), [])

    def test_sizes(self):
        book = ["john runs"]
        self.assertEqual([self.texts(SMALL, "runs", book, size) for size in range(3)], [[], [], ["n.r s"]])
        lexicon = read_lexicon("goal s; a: s; b: s.r; c: s s")
        self.assertEqual([self.texts(lexicon, "w", ["a w"], size) for size in range(3)], [["1"]] * 3)
        self.assertEqual([self.texts(lexicon, "w", ["c w"], size) for size in range(3)], [[], ["s.r"], ["s.r"]])

    def test_a_kind_without_signs(self):
        lexicon = read_lexicon("goal s; a: s; b: n")
        self.assertEqual(learnt(lexicon, "w", (("a", "w", "w"),), 0), [()])
        self.assertEqual(self.texts(lexicon, "w", ["w a", "a w", "a", "w w a w w"], 2), ["1"])
        self.assertEqual(self.texts(lexicon, "b", ["b a", "a b"], 2), ["1"])
        self.assertEqual(self.texts(lexicon, "b", ["b"], 0), [])

    def test_several_kinds_of_the_fewest_signs_sorted(self):
        lexicon = read_lexicon("goal s; q < s; r < s; a: 1")
        self.assertEqual(self.texts(lexicon, "w", ["w"], 2), ["q", "r", "s"])
        lexicon = read_lexicon("goal s; s < m; m < s; a: m")
        self.assertEqual(self.texts(lexicon, "w", ["a w a"], 2), ["m.l", "m.r", "s.l", "s.r"])
        self.assertEqual(
            learnt(lexicon, "w", (("a", "w", "a"),), 1), [(("m", -1),), (("m", 1),), (("s", -1),), (("s", 1),)]
        )

    def test_fewer_signs_ahead_of_more(self):
        lexicon = read_lexicon("goal s; n < s; a: n; b: s s.r s")
        self.assertEqual(self.texts(lexicon, "w", ["w"], 2), ["n", "s"])

    def test_rows_without_the_word(self):
        lexicon = read_lexicon("goal s; a: s; b: n; c: n.r s")
        self.assertEqual(self.texts(lexicon, "w", ["w", "a"], 2), ["s"])
        self.assertEqual(self.texts(lexicon, "w", ["a", "w", "b c"], 2), ["s"])
        self.assertEqual(self.texts(lexicon, "w", ["w", "b"], 2), [])
        self.assertEqual(self.texts(lexicon, "w", ["c b", "w"], 2), [])

    def test_a_book_without_the_word(self):
        # Then any kind does, and that without signs has the fewest.
        lexicon = read_lexicon("goal s; a: s; b: n")
        self.assertEqual(self.texts(lexicon, "w", ["a"], 2), ["1"])
        self.assertEqual(self.texts(lexicon, "w", ["b"], 2), [])

    def test_the_word_several_times_in_a_row(self):
        lexicon = read_lexicon("goal s; a: s; x: x")
        self.assertEqual(self.texts(lexicon, "w", ["w a", "w w a", "w w w w a"], 2), ["1"])
        self.assertEqual(self.texts(lexicon, "a", ["a a a"], 2), [])
        lexicon = read_lexicon("goal s; x: x; y: x.r s")
        self.assertEqual(self.texts(lexicon, "w", ["x w y", "x w w w y"], 2), ["1"])
        self.assertEqual(self.texts(lexicon, "y", ["x y"], 2), ["x.r s"])

    def test_marks_of_the_order_and_of_the_goal(self):
        lexicon = read_lexicon("goal g; o < g; a: 1")
        self.assertEqual(self.texts(lexicon, "w", ["a w"], 2), ["g", "o"])
        lexicon = read_lexicon("goal g; a: n")
        self.assertEqual(self.texts(lexicon, "w", ["w", "w"], 1), ["g"])

    def test_marks_of_the_words_own_kinds_as_it_is_handed_in(self):
        # The mark x is the lexicon's by the word's own kind alone.
        lexicon = read_lexicon("goal s; s < g; g < s; w: x; a: 1")
        self.assertEqual(marks_of(lexicon), ["g", "s", "x"])
        self.assertEqual(self.texts(lexicon, "w", ["w a"], 2), ["g", "s"])
        lexicon = read_lexicon("goal s; x < s; w: x; a: s s.l")
        self.assertEqual(self.texts(lexicon, "w", ["a w"], 2), ["s", "x"])
        # Where any kind cancels by itself, those of that mark are among them.
        lexicon = read_lexicon("goal s; w: x; a: s; b: s.r")
        self.assertEqual(self.texts(lexicon, "w", ["a w"], 2), ["1"])

    def test_three_marks(self):
        lexicon = read_lexicon("goal s; n < m; a: n; b: m s.r")
        self.assertEqual(self.texts(lexicon, "w", ["a w"], 2), ["m.r s", "n.r s"])
        self.assertEqual(self.texts(lexicon, "w", ["b w"], 2), [])
        self.assertEqual(self.texts(lexicon, "w", ["w a"], 2), ["s m.l", "s n.l"])

    def test_none(self):
        for book in [["john"], ["w john w", "w"], ["w", "w w"], ["john john john john w"]]:
            self.assertEqual(self.texts(SMALL, "w", book, 2), [])

    def test_books_of_four_rows_of_five_words(self):
        lexicon = read_lexicon("goal s; a: n; e: 1; v: n.r s n.l; t: n n.l")
        book = ["e a v w a", "w a v a", "a w v a e", "a v a w e"]
        self.assertEqual(self.texts(lexicon, "w", book, 2), ["1"])
        book = ["t w v w", "t t w v a", "w v w", "a v t w e"]
        self.assertEqual(self.texts(lexicon, "w", book, 2), ["n"])
        book = ["w a v a", "w w a v a", "a v w a", "a v w w a"]
        self.assertEqual(self.texts(lexicon, "w", book, 2), ["1"])
        self.assertEqual(self.texts(lexicon, "w", ["a w a", "a v a", "t a w a", "a w t a"], 2), [])

    def test_by_chance(self):
        chance = random.Random(22)
        told = []
        for time in range(900):
            lexicon = chance_lexicon(chance, chance.randrange(1, 4), 2, 2, "abc"[: chance.randrange(1, 4)])
            words = [word for word, kinds in lexicon[2]]
            word = chance.choice(words + ["w"])
            rows = chance.choice([1, 1, 2, 3, 4])
            most = 4 if rows < 3 else 3
            book = tuple(
                [
                    tuple([chance.choice(words + [word, word]) for at in range(chance.randrange(1, most))])
                    for row in range(rows)
                ]
            )
            kinds = self.looked_at(lexicon, word, book, chance.choice([0, 1, 2, 2, 2]))
            told.append((len(kinds), len(kinds[0]) if kinds else None))
        for size in [None, 0, 1, 2]:
            self.assertGreater(len([one for one in told if one[1] == size]), 3)
        self.assertGreater(len([one for one in told if one[0] > 1]), 5)

    def test_rows_of_five_words_by_chance(self):
        chance = random.Random(5)
        for time in range(20):
            lexicon = chance_lexicon(chance, 3, 1, 2, "ab", (0, 1))
            book = tuple([tuple([chance.choice("abcw") for at in range(5)]) for row in range(chance.randrange(1, 3))])
            self.looked_at(lexicon, "w", book, 2)

    def test_a_told_list_that_is_changed_changes_nothing(self):
        lexicon = read_lexicon("goal s; q < s; a: 1")
        told = learnt(lexicon, "w", (("w",),), 1)
        told.append("spoilt")
        told[0] = None
        self.assertEqual(learnt(lexicon, "w", (("w",),), 1), [(("q", 0),), (("s", 0),)])
        none = learnt(lexicon, "w", (("w", "w"),), 0)
        none.append("spoilt")
        self.assertEqual(learnt(lexicon, "w", (("w", "w"),), 0), [])


class RefusalTest(unittest.TestCase):
    def no_word(self, lexicon, word, book, wrong):
        for size in range(3):
            with self.subTest(word=repr(word), book=book, size=size):
                with self.assertRaises(NoWord) as caught:
                    learnt(lexicon, word, book, size)
                self.assertEqual(caught.exception.word, wrong)

    def no_lexicon(self, lexicon, word, book):
        for size in range(3):
            with self.subTest(word=repr(word), book=repr(book), size=size):
                with self.assertRaises(NoLexicon):
                    learnt(lexicon, word, book, size)

    def test_the_first_other_word_row_by_row(self):
        self.no_word(SMALL, "w", (("x",),), "x")
        self.no_word(SMALL, "w", (("w", "john", "y", "x"),), "y")
        self.no_word(SMALL, "w", (("w",), ("john", "y"), ("x",)), "y")
        self.no_word(SMALL, "w", (("w", "w"), ("mary", "w"), ("w", ""), ("x",)), "")
        self.no_word(SMALL, "john", (("john", "mary", "w"),), "w")
        for word in ["", "W", "w ", "johns", "s", "abcdefghi", "\n"]:
            self.no_word(SMALL, "w", (("w", word),), word)

    def test_also_where_no_kind_would_do(self):
        self.no_word(SMALL, "w", (("john", "john"), ("x", "w")), "x")

    def test_also_where_the_word_that_is_learnt_is_none(self):
        for word in odd_things() + NUMBERS + TUPLES + ["", "W", "abcdefghi", "a b", "a1", AlikeToAll()]:
            self.no_word(SMALL, word, (("john", "x"), ("y",)), "x")
            self.no_word(SMALL, word, (("john", word, "x"), ("y",)), "x")

    def test_also_where_it_would_be_an_eleventh_word(self):
        self.no_word(of_words(10), "k", (("k", "a"), ("b", "x"), ("y",)), "x")
        self.no_word(of_words(10), "a", (("k", "a"),), "k")

    def test_what_is_no_word(self):
        for word in odd_things() + NUMBERS + TUPLES + ["", "W", "abcdefghi", "a b", "a1", "a\n", AlikeToAll()]:
            self.no_lexicon(SMALL, word, ((word,),))
            self.no_lexicon(SMALL, word, (("john",), ("mary", word, "john")))
            self.no_lexicon(SMALL, word, (("john",),))

    def test_what_is_no_word_and_cannot_be_shown(self):
        for word in unshown_things():
            with self.assertRaises(NoLexicon):
                learnt(SMALL, word, (("john",), (word,)), 1)
            with self.assertRaises(NoWord) as caught:
                learnt(SMALL, word, (("john",), (word, "x")), 1)
            self.assertEqual(caught.exception.word, "x")

    def test_an_eleventh_word(self):
        self.no_lexicon(of_words(10), "k", (("k",),))
        self.no_lexicon(of_words(10), "k", (("a",), ("a", "b")))
        self.assertEqual(learnt(of_words(9), "j", (("j",),), 2), [(("s", 0),)])

    def test_one_of_the_ten_words_is_not_refused(self):
        for word in "abcdefghij":
            self.assertEqual(learnt(of_words(10), word, ((word,),), 2), [(("s", 0),)])

    def test_size_0_where_no_kind_does_is_no_refusal(self):
        self.assertEqual(learnt(SMALL, "w", (("w",),), 0), [])


class FitTest(Looks, unittest.TestCase):
    def test_mirrored_and_turned_about_the_mirror_images_are_learnt(self):
        chance = random.Random(27)
        told = 0
        for time in range(150):
            lexicon = chance_lexicon(chance, 2, 2, 2, "ab")
            book = tuple([tuple([chance.choice("abww") for at in range(chance.randrange(1, 4))]) for row in "12"])
            kinds = learnt(lexicon, "w", book, 2)
            turned = tuple([row[::-1] for row in book])
            self.assertEqual(learnt(mirrored(lexicon), "w", turned, 2), sorted([mirror(kind) for kind in kinds]))
            told += len(kinds)
        self.assertGreater(told, 30)

    def test_what_is_learnt_and_put_in_is_learnt_again(self):
        lexicon = read_lexicon("goal s; n < m; a: n; e: 1")
        book = (("a", "w"), ("e", "a", "w"))
        kinds = self.looked_at(lexicon, "w", book, 2)
        for kind in kinds:
            self.assertEqual(learnt(put_in(lexicon, "w", (kind,)), "w", book, 2), kinds)


if __name__ == "__main__":
    unittest.main()
