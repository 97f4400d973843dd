import itertools
import random
import unittest

from tests.trials import chance_lexicon, is_sentence_by_trial, sentences_by_trial
from wordwishes.books import parting, sentences_of
from wordwishes.changes import mirrored, put_in, taken_out
from wordwishes.lexicons import is_lexicon
from wordwishes.lexicontexts import read_lexicon
from wordwishes.sentences import sentence

ENGLISH = read_lexicon("goal s; n < np; sees: np.r s np.l; runs: np.r s; john: n; oh: 1")


def parting_by_trial(one, other, length):
    """By trial of all rows of words that both have, shorter ones first."""
    shared = {word for word, kinds in one[2]} & {word for word, kinds in other[2]}
    for many_words in range(length + 1):
        for row in sorted(itertools.product(shared, repeat=many_words)):
            if is_sentence_by_trial(one, row) != is_sentence_by_trial(other, row):
                return row
    return None


class SentencesOfTest(unittest.TestCase):
    def looked_at(self, lexicon, length):
        self.assertIs(is_lexicon(lexicon), True)
        told = sentences_of(lexicon, length)
        self.assertIsInstance(told, list)
        for row in told:
            self.assertIsInstance(row, tuple)
            self.assertEqual(len(row), length)
        self.assertEqual(told, sentences_by_trial(lexicon, length))
        return told

    def test_no_words_are_never_a_sentence(self):
        for text in ["goal s; a: s", "goal s; a: 1 | s.r", "goal s; s < s; q < s; s < q; a: q; b: 1"]:
            self.assertEqual(self.looked_at(read_lexicon(text), 0), [])

    def test_in_order(self):
        self.assertEqual(self.looked_at(ENGLISH, 1), [])
        self.assertEqual(self.looked_at(ENGLISH, 2), [("john", "runs")])
        self.assertEqual(
            self.looked_at(ENGLISH, 3),
            [("john", "oh", "runs"), ("john", "runs", "oh"), ("john", "sees", "john"), ("oh", "john", "runs")],
        )
        # As tuples, not as texts: a word ahead of one that goes on from it.
        lexicon = read_lexicon("goal s; ab: s | 1; b: 1 | s; a: s | 1")
        self.assertEqual(self.looked_at(lexicon, 1), [("a",), ("ab",), ("b",)])
        self.assertEqual(self.looked_at(lexicon, 2), list(itertools.product(["a", "ab", "b"], repeat=2)))

    def test_none(self):
        for length in range(5):
            self.assertEqual(self.looked_at(read_lexicon("goal s; a: n; b: s.r"), length), [])
            self.assertEqual(self.looked_at(read_lexicon("goal s; a: 1"), length), [])

    def test_one_word(self):
        lexicon = read_lexicon("goal s; w: s.l | s")
        told = [self.looked_at(lexicon, length) for length in range(5)]
        self.assertEqual(told, [[], [("w",)], [], [("w", "w", "w")], []])

    def test_a_row_with_several_drawings_stands_once(self):
        lexicon = read_lexicon("goal s; w: s | 1 | s s.r; v: s s.l | 1")
        self.assertEqual(self.looked_at(lexicon, 2), [("v", "w"), ("w", "v"), ("w", "w")])

    def test_by_chance(self):
        chance = random.Random(21)
        told = {length: 0 for length in range(5)}
        for time in range(150):
            words = chance.randrange(1, 4)
            lexicon = chance_lexicon(chance, words, 2, 3 if time < 100 else 2, "ab", (0, 1))
            for length in range(5 if words < 3 else 4):
                told[length] += len(self.looked_at(lexicon, length))
        self.assertEqual(told[0], 0)
        for length in [1, 2, 3, 4]:
            self.assertGreater(told[length], 20)

    def test_three_words_of_the_greatest_length(self):
        chance = random.Random(4)
        told = []
        for time in range(12):
            told.append(len(self.looked_at(chance_lexicon(chance, 3, 2, 2, "ab", (-1, 0, 1)), 4)))
        self.assertGreater(len(set(told)), 3)

    def test_256_rows_of_the_greatest_length(self):
        lexicon = read_lexicon("goal s; d: s; c: s s.l; b: s.r s; a: 1 | s.r")
        told = self.looked_at(lexicon, 4)
        self.assertGreater(len(told), 20)
        self.assertEqual(told, [row for row in itertools.product("abcd", repeat=4) if row in told])
        everything = read_lexicon("goal s; " + "; ".join([f"{word}: s | 1" for word in "dbca"]))
        self.assertEqual(sentences_of(everything, 4), list(itertools.product("abcd", repeat=4)))
        sixteen = read_lexicon("goal s; " + "; ".join([f"{word}: 1 | s | s s.l" for word in "abcdefghij"]))
        self.assertEqual(sentences_of(sixteen, 2), list(itertools.product("abcdefghij", repeat=2)))

    def test_48_signs(self):
        kinds = "s s.l s | s s.r s | s.r s.rr s | s s n"
        lexicon = read_lexicon(f"goal s; b: {kinds}; a: {kinds}; d: {kinds}; c: {kinds}")
        self.assertEqual(sentences_of(lexicon, 1), [("a",), ("b",), ("c",), ("d",)])
        told = sentences_of(lexicon, 4)
        rows = list(itertools.product("abcd", repeat=4))
        self.assertEqual(told, [row for row in rows if sentence(lexicon, row)[0] == "sentence"])

    def test_a_told_list_that_is_changed_changes_nothing(self):
        told = sentences_of(ENGLISH, 3)
        right = list(told)
        told.append(("spoilt",))
        told[0] = None
        self.assertEqual(sentences_of(ENGLISH, 3), right)
        self.assertIsNot(sentences_of(ENGLISH, 3), sentences_of(ENGLISH, 3))


class PartingTest(unittest.TestCase):
    def looked_at(self, one, other, length):
        told = parting(one, other, length)
        right = parting_by_trial(one, other, length)
        self.assertEqual(told, right)
        self.assertEqual(parting(other, one, length), right)
        if told is not None:
            self.assertIsInstance(told, tuple)
            names = {sentence(one, told)[0], sentence(other, told)[0]}
            self.assertEqual(names, {"sentence", "none"})
        return told

    def by_lengths(self, one, other):
        return [self.looked_at(read_lexicon(one), read_lexicon(other), length) for length in range(5)]

    def test_the_kinds_of_one_word(self):
        self.assertEqual(
            self.by_lengths("goal s; n: n; v: n.r s", "goal s; n: n; v: n.r s n.l"),
            [None, None, ("n", "v"), ("n", "v"), ("n", "v")],
        )
        self.assertEqual(
            self.by_lengths("goal s; n: n; v: n.r s", "goal s; n: n; v: n.r s | n.r s n.l"),
            [None, None, None, ("n", "v", "n"), ("n", "v", "n")],
        )
        self.assertEqual(
            self.by_lengths("goal s; b: n; a: n.r s", "goal s; b: n; a: n.r n.r s"),
            [None, None, ("b", "a"), ("b", "a"), ("b", "a")],
        )

    def test_the_order(self):
        self.assertEqual(
            self.by_lengths("goal s; n < m; a: n; b: m.r s", "goal s; m < n; a: n; b: m.r s"),
            [None, None, ("a", "b"), ("a", "b"), ("a", "b")],
        )
        self.assertEqual(self.by_lengths("goal s; n < m; a: s; b: m", "goal s; a: s; b: m"), [None] * 5)

    def test_the_goal(self):
        self.assertEqual(
            self.by_lengths("goal s; b: s; a: q", "goal q; b: s; a: q"), [None, ("a",), ("a",), ("a",), ("a",)]
        )
        self.assertEqual(self.by_lengths("goal s; a: n", "goal q; a: n"), [None] * 5)

    def test_a_word_more_or_fewer(self):
        self.assertEqual(self.by_lengths("goal s; a: s; b: s", "goal s; a: s"), [None] * 5)
        self.assertEqual(
            self.by_lengths("goal s; a: s; b: n; c: 1", "goal s; d: s; c: 1; b: s"),
            [None, ("b",), ("b",), ("b",), ("b",)],
        )

    def test_no_word_is_shared(self):
        self.assertEqual(self.by_lengths("goal s; a: s; b: s", "goal s; c: s; d: n"), [None] * 5)

    def test_alike_lexicons(self):
        text = "goal s; n < m; a: n | s s.l; b: m.r s"
        self.assertEqual(self.by_lengths(text, text), [None] * 5)
        self.assertEqual(self.by_lengths(text, "goal s; n < m; b: m.r s; a: s s.l | n"), [None] * 5)

    def test_shorter_rows_ahead_of_those_that_are_less(self):
        one = read_lexicon("goal s; a: s.l | q; b: s")
        other = read_lexicon("goal s; a: q; b: 1")
        self.assertEqual(self.looked_at(one, other, 4), ("b",))
        one = read_lexicon("goal s; c: 1; a: q; b: q.r s")
        other = read_lexicon("goal s; c: 1; a: q; b: s.r")
        self.assertEqual(self.looked_at(one, other, 4), ("a", "b"))
        one = read_lexicon("goal s; c: n.r s; a: n; b: n.r s")
        other = read_lexicon("goal s; c: q; a: n; b: q")
        self.assertEqual(self.looked_at(one, other, 4), ("a", "b"))

    def test_a_row_of_the_greatest_length_alone(self):
        one = read_lexicon("goal s; a: x; b: x.r y; c: y.r z; d: z.r s")
        other = read_lexicon("goal s; a: x; b: x.r y; c: y.r z; d: z.r z.r s")
        self.assertEqual([self.looked_at(one, other, length) for length in range(5)], [None] * 4 + [tuple("abcd")])

    def test_by_chance(self):
        chance = random.Random(22)
        lengths = []
        for time in range(900):
            one = chance_lexicon(chance, chance.randrange(1, 4), 2, 2, "ab", (0, 1))
            word, kinds = chance.choice(chance_lexicon(chance, 3, 2, 2, "ab", (0, 1))[2])
            other = put_in(one, word, kinds)
            if time % 3 == 0:
                other = (other[0], chance.choice("ab"), other[2])
            if time % 4 == 0 and len(one[2]) > 1:
                one = taken_out(one, one[2][0][0])
            told = self.looked_at(one, other, chance.randrange(4))
            lengths.append(None if told is None else len(told))
        for length in [None, 1, 2, 3]:
            self.assertGreater(lengths.count(length), 3)

    def test_a_lexicon_and_itself_mirrored_twice_are_parted_by_nothing(self):
        chance = random.Random(23)
        for time in range(40):
            lexicon = chance_lexicon(chance, 3, 3, 4)
            self.assertIsNone(parting(lexicon, mirrored(mirrored(lexicon)), 3))


class FitTest(unittest.TestCase):
    def test_the_sentences_mirrored_are_those_turned_about(self):
        chance = random.Random(24)
        told = 0
        for time in range(80):
            lexicon = chance_lexicon(chance, 3, 2, 3, "ab")
            for length in range(4):
                rows = sentences_of(lexicon, length)
                self.assertEqual(sentences_of(mirrored(lexicon), length), sorted([row[::-1] for row in rows]))
                told += len(rows)
        self.assertGreater(told, 50)

    def test_with_a_word_put_in_those_without_it_stay(self):
        chance = random.Random(25)
        for time in range(40):
            lexicon = chance_lexicon(chance, 2, 2, 3, "ab", (0, 1))
            more = put_in(lexicon, "z", ((), (("a", 0),)))
            for length in range(4):
                rows = [row for row in sentences_of(more, length) if "z" not in row]
                self.assertEqual(rows, sentences_of(lexicon, length))
                self.assertEqual(sentences_of(taken_out(more, "z"), length), rows)

    def test_a_row_parts_two_lexicons_where_their_sentences_differ(self):
        chance = random.Random(26)
        for time in range(40):
            one = chance_lexicon(chance, 2, 2, 2, "ab", (0, 1))
            other = chance_lexicon(chance, 2, 2, 2, "ab", (0, 1))
            told = parting(one, other, 3)
            for length in range(4):
                differ = sorted(set(sentences_of(one, length)) ^ set(sentences_of(other, length)))
                if differ:
                    self.assertEqual(told, differ[0])
                    break
            else:
                self.assertIsNone(told)


if __name__ == "__main__":
    unittest.main()
