import random
import unittest

from tests.trials import (
    Papers,
    chance_lexicon,
    choices_of,
    kinds_in,
    signs_by_hand,
    words_drawings_by_trial,
)
from wordwishes.arcs import is_drawing
from wordwishes.charts import chart_of
from wordwishes.drawings import many
from wordwishes.errors import NoWord
from wordwishes.lexicons import is_lexicon
from wordwishes.lexicontexts import read_lexicon
from wordwishes.sentences import closed_paper, sentence, signs_of
from wordwishes.signs import right_wish

ENGLISH = read_lexicon(
    "goal s; n < np; john: n | np; sees: np.r s np.l | np.r s; the: np n.l; oh: 1 | s s.l; that: s s.l"
)


def plain(*turns):
    return tuple([("a", turn) for turn in turns])


def marked(text):
    """A row of marks of one letter, each with its turn told by the letter's neighbours: < one less, > one more."""
    turns = {"<": -1, "=": 0, ">": 1}
    return tuple([(text[at], turns[text[at + 1]]) for at in range(0, len(text), 2)])


class Looks(Papers):
    """Looks at what sentence tells, against what the caller knows."""

    def drawing_shows(self, lexicon, words, drawing):
        self.assertIsInstance(drawing, tuple)
        choice, arcs = drawing
        self.assertIsInstance(choice, tuple)
        self.assertEqual(len(choice), len(words))
        for number, kinds in zip(choice, kinds_in(lexicon, words)):
            self.assertIs(number.__class__, int)
            self.assertIn(number, range(len(kinds)))
        self.assertIs(is_drawing(lexicon[0], signs_by_hand(lexicon, words, choice), arcs), True)

    def is_sentence(self, lexicon, words):
        told = sentence(lexicon, words)
        self.assertIsInstance(told, tuple)
        name, drawing = told
        self.assertEqual(name, "sentence", words)
        self.drawing_shows(lexicon, words, drawing)
        return drawing

    def is_none(self, lexicon, words):
        """Tells which form the paper has."""
        told = sentence(lexicon, words)
        self.assertIsInstance(told, tuple)
        name, paper = told
        self.assertEqual(name, "none", words)
        self.words_paper_shows(lexicon, words, paper)
        return paper[0]


class SignsOfTest(unittest.TestCase):
    def test_no_words(self):
        self.assertEqual(signs_of(ENGLISH, (), ()), (("s", 1),))
        self.assertIsInstance(signs_of(ENGLISH, (), ()), tuple)

    def test_one_word_and_several(self):
        self.assertEqual(signs_of(ENGLISH, ("john",), (1,)), (("np", 0), ("s", 1)))
        self.assertEqual(signs_of(ENGLISH, ("oh",), (0,)), (("s", 1),))
        self.assertEqual(
            signs_of(ENGLISH, ("john", "sees", "john"), (0, 0, 1)),
            (("n", 0), ("np", 1), ("s", 0), ("np", -1), ("np", 0), ("s", 1)),
        )

    def test_all_choices(self):
        words = ("john", "oh", "sees", "the", "john", "oh")
        for choice in choices_of(ENGLISH, words):
            self.assertEqual(signs_of(ENGLISH, words, choice), signs_by_hand(ENGLISH, words, choice))

    def test_a_word_that_is_not_there(self):
        for words, wrong in [(("",), ""), (("john", "jo", "x"), "jo"), (("john", "sees", "JOHN"), "JOHN")]:
            with self.assertRaises(NoWord) as caught:
                signs_of(ENGLISH, words, (0,) * len(words))
            self.assertEqual(caught.exception.word, wrong)


class SentenceTest(Looks, unittest.TestCase):
    def test_one_word(self):
        lexicon = read_lexicon("goal s; q < s; a: s; b: q; c: s.l s s | 1 | s; d: s.r; e: 1")
        self.assertEqual(sentence(lexicon, ("a",)), ("sentence", ((0,), ((0, 1),))))
        self.assertEqual(sentence(lexicon, ("b",)), ("sentence", ((0,), ((0, 1),))))
        self.is_sentence(lexicon, ("c",))
        self.is_none(lexicon, ("d",))
        self.is_none(lexicon, ("e",))

    def test_the_goal_is_not_at_most_what_is_told(self):
        self.is_none(read_lexicon("goal q; q < s; a: s"), ("a",))
        self.is_sentence(read_lexicon("goal s; q < s; a: q"), ("a",))

    def test_several_words(self):
        self.assertEqual(
            sentence(ENGLISH, ("that", "john", "sees")), ("sentence", ((0, 0, 1), ((0, 5), (1, 4), (2, 3))))
        )
        for text in ["john sees", "john sees john", "the john sees the john", "that that john sees john"]:
            self.is_sentence(ENGLISH, tuple(text.split(" ")))
        for text in ["john", "sees", "sees john", "john john sees", "the john", "john that sees", "oh oh"]:
            self.is_none(ENGLISH, tuple(text.split(" ")))

    def test_eight_words(self):
        self.is_sentence(ENGLISH, ("that", "that", "that", "the", "john", "sees", "the", "john"))
        self.is_sentence(ENGLISH, ("oh", "oh", "oh", "john", "oh", "sees", "john", "oh"))
        self.is_none(ENGLISH, ("that", "that", "that", "the", "john", "sees", "john", "the"))
        self.is_none(ENGLISH, ("john",) * 8)

    def test_words_that_stand_there_twice_choose_each_for_itself(self):
        lexicon = read_lexicon("goal s; w: n | n.r s")
        self.assertEqual(sentence(lexicon, ("w", "w")), ("sentence", ((0, 1), ((0, 1), (2, 3)))))
        self.is_none(lexicon, ("w", "w", "w"))

    def test_each_place_has_one_kind(self):
        # By one kind for what is ahead, and another for what is behind, it would be a sentence.
        lexicon = read_lexicon("goal s; a: x; b: x.r | y s; c: y.r")
        self.is_none(lexicon, ("a", "b", "c"))
        lexicon = read_lexicon("goal s; a: x; b: x.r y | s; c: y.r | z")
        self.is_none(lexicon, ("a", "b", "c"))
        self.is_none(read_lexicon("goal s; b: s.r | s s"), ("b",))

    def test_kinds_without_signs(self):
        lexicon = read_lexicon("goal s; e: 1; a: s; b: 1 | s; c: s.l | 1")
        self.assertEqual(sentence(lexicon, ("e", "e", "a", "e")), ("sentence", ((0, 0, 0, 0), ((0, 1),))))
        self.is_sentence(lexicon, ("b", "b", "e", "b"))
        self.is_sentence(lexicon, ("e", "c", "b", "e", "b"))
        self.is_none(lexicon, ("e",) * 8)
        self.is_none(lexicon, ("e", "c", "e"))

    def test_arcs_over_words_without_signs_and_within_one_kind(self):
        lexicon = read_lexicon("goal s; a: n; e: 1; b: n.r n n.r s; c: n.r n.rr s n n.r")
        self.is_sentence(lexicon, ("a", "e", "e", "b"))
        self.is_sentence(lexicon, ("c",))
        self.is_none(lexicon, ("e", "b", "e"))

    def test_no_words(self):
        for text in ["goal s; a: s", "goal s; s < s; a: s.r | 1", "goal s; q < s; s < q; a: q"]:
            self.is_none(read_lexicon(text), ())

    def test_far_turns(self):
        verb = (("n", 99), ("s", 0), ("n", -99))
        lexicon = ((), "s", (("a", ((("n", 98),),)), ("b", (verb,)), ("c", ((("n", -98),),))))
        self.is_sentence(lexicon, ("a", "b", "c"))

    def test_against_a_trial_of_all(self):
        chance = random.Random(11)
        forms = []
        for time in range(700):
            lexicon = chance_lexicon(chance, 3, 4, 3)
            self.assertIs(is_lexicon(lexicon), True)
            words = tuple([chance.choice("abc") for at in range(chance.randrange(4))])
            right = words_drawings_by_trial(lexicon, words)
            if right:
                self.assertIn(self.is_sentence(lexicon, words), right)
                forms.append("sentence")
            else:
                forms.append(self.is_none(lexicon, words))
        for form in ["sentence", "closed", "counted"]:
            self.assertGreater(forms.count(form), 50)

    def test_against_a_trial_of_all_with_one_mark(self):
        chance = random.Random(12)
        forms = []
        for time in range(500):
            lexicon = chance_lexicon(chance, 3, 3, 3, "a", (0, 1))
            words = tuple([chance.choice("abc") for at in range(chance.randrange(1, 5))])
            right = words_drawings_by_trial(lexicon, words)
            if right:
                self.assertIn(self.is_sentence(lexicon, words), right)
                forms.append("sentence")
            else:
                forms.append(self.is_none(lexicon, words))
        for form in ["sentence", "closed", "counted"]:
            self.assertGreater(forms.count(form), 30)


class FarTooManyTest(Looks, unittest.TestCase):
    """Eight words of four kinds, 48 signs together."""

    def asked(self, kinds):
        self.assertEqual(sum([len(kind) for kind in kinds]), 6)
        lexicon = ((), "a", (("w", kinds),))
        self.assertIs(is_lexicon(lexicon), True)
        return lexicon

    def test_a_sentence_for_one_choice_of_65536(self):
        # The first word's kinds call for the next one's, and so on.
        entries = []
        for at in range(8):
            ahead = (("xywvutsr"[at - 1], 1),) if at else ()
            behind = (("xywvutsr"[at], 0),) if at < 7 else (("goal", 0),)
            entries.append(("abcdefgh"[at], ((("q", 0),), (("p", 0),), (("p", 1), ("q", 0)), ahead + behind)))
        lexicon = ((), "goal", tuple(entries))
        self.assertIs(is_lexicon(lexicon), True)
        choice, arcs = self.is_sentence(lexicon, tuple("abcdefgh"))
        self.assertEqual(choice, (3,) * 8)
        self.assertEqual(self.is_none(lexicon, tuple("bacdefgh")), "closed")

    def test_sentences_by_very_many_choices(self):
        lexicon = self.asked((plain(0, 1), plain(1, 0), plain(0), plain(1)))
        self.is_sentence(lexicon, ("w",) * 8)
        self.assertGreater(many(lexicon, ("w",) * 8), 1000)

    def test_sentences_by_very_many_arcs(self):
        kinds = (plain(0, 1, 0, 1, 2), plain(1))
        lexicon = ((), "a", (("w", kinds), ("v", (plain(0),)), ("u", (plain(0, 1, 2, 1),))))
        self.is_sentence(lexicon, ("w", "w") * 3 + ("u", "v"))
        self.is_sentence(lexicon, ("u", "v") + ("w", "w") * 3)

    def test_none_of_very_many_choices(self):
        lexicon = self.asked((plain(1), plain(-1), plain(1, -1), plain(-1, 1)))
        self.assertEqual(self.is_none(lexicon, ("w",) * 8), "counted")
        lexicon = self.asked((plain(1, 0), plain(3, 2), plain(5), plain(4)))
        self.assertEqual(self.is_none(lexicon, ("w",) * 7), "closed")
        self.assertEqual(self.is_none(lexicon, ("w",) * 8), "closed")

    def test_papers_by_chance(self):
        chance = random.Random(48)
        told = []
        for time in range(12):
            entries = []
            for word in "abcdefgh":
                rows = set()
                while len(rows) < 4:
                    size = [1, 1, 2, 2][len(rows)]
                    rows.add(tuple([(chance.choice("ab"), chance.choice([0, 1, 2])) for at in range(size)]))
                entries.append((word, tuple(sorted(rows))))
            lexicon = ((("a", "b"),), "a", tuple(entries))
            self.assertIs(is_lexicon(lexicon), True)
            words = tuple("abcdefgh")
            if sentence(lexicon, words)[0] == "sentence":
                self.is_sentence(lexicon, words)
                told.append("sentence")
            lexicon = (lexicon[0], "c", tuple(entries[:7]) + (("h", ((("c", 0), ("c", 0), ("c", 1)), (("c", 2),))),))
            if sentence(lexicon, words)[0] == "none":
                told.append(self.is_none(lexicon, words))
        self.assertIn("sentence", told)
        self.assertIn("closed", told)


class PaperTest(Looks, unittest.TestCase):
    """The paper of either form shows that words are no sentence, where they are none."""

    def closed_of(self, lexicon, words):
        name, pairs = closed_paper(chart_of(lexicon, words))
        self.assertEqual(name, "closed")
        self.words_closed_shows(lexicon, words, pairs)
        return pairs

    def test_closed_of_no_words(self):
        lexicon = read_lexicon("goal s; a: s")
        self.assertEqual(self.closed_of(lexicon, ()), (((0, 0, 0), (0, 0, 0)), ((0, 0, 1), (0, 0, 1))))

    def test_closed_of_a_word(self):
        lexicon = read_lexicon("goal s; q < s; a: s.r s; b: 1; c: s; d: t t.r")
        for word in "abd":
            self.closed_of(lexicon, (word,))
        self.assertEqual(
            self.closed_of(lexicon, ("b",)),
            (
                ((0, 0, 0), (0, 0, 0)),
                ((0, 0, 0), (1, 0, 0)),
                ((1, 0, 0), (1, 0, 0)),
                ((1, 0, 1), (1, 0, 1)),
            ),
        )
        with self.assertRaises(AssertionError):
            self.closed_of(lexicon, ("c",))

    def test_closed_wherever_words_are_none(self):
        chance = random.Random(13)
        for time in range(150):
            lexicon = chance_lexicon(chance, 3, 3, 3)
            words = tuple([chance.choice("abc") for at in range(chance.randrange(4))])
            if not words_drawings_by_trial(lexicon, words):
                self.closed_of(lexicon, words)

    def test_counted_where_no_choice_is_even(self):
        lexicon = read_lexicon("goal s; a: s s | s.r s.rrr | 1")
        self.assertEqual(sentence(lexicon, ("a", "a")), ("none", ("counted", "s")))
        self.assertEqual(sentence(read_lexicon("goal s; a: s | n s"), ())[1], ("counted", "s"))
        # n and m hang together by o, to which neither is told as the other.
        lexicon = read_lexicon("goal s; n < o; m < o; a: n s m.r")
        self.assertEqual(self.is_none(lexicon, ("a",)), "closed")
        lexicon = read_lexicon("goal s; n < o; a: n s m.r")
        self.assertEqual(self.is_none(lexicon, ("a",)), "counted")

    def test_turns_below_zero_are_odd_or_even(self):
        self.assertEqual(self.is_none(read_lexicon("goal s; a: s n n.l"), ("a",)), "closed")
        self.assertEqual(self.is_none(read_lexicon("goal s; a: s n.l n.lll"), ("a",)), "counted")


class NoWordTest(unittest.TestCase):
    def refused(self, words, wrong):
        with self.assertRaises(NoWord) as caught:
            sentence(ENGLISH, words)
        self.assertEqual(caught.exception.word, wrong)

    def test_a_word_alone(self):
        for word in ["", "x", "johns", "John", "john ", " ", "s", "np", "goal", "a" * 30, "\n", "1"]:
            self.refused((word,), word)

    def test_the_first_of_several(self):
        self.refused(("x", "y"), "x")
        self.refused(("john", "y", "x"), "y")
        self.refused(("john", "sees", ""), "")
        self.refused(("john", "", "x"), "")
        self.refused(("john",) * 7 + ("jon",), "jon")


class FitTest(Looks, unittest.TestCase):
    def test_a_row_and_what_it_wishes(self):
        # Each row has a word of its wish behind it, and the goal ahead of it.
        rows = [marked("x=y<"), marked("x>"), marked("y=y=z<x>"), ()]
        for row in rows:
            lexicon = ((), "s", (("a", ((("s", 0),) + row,)), ("b", (right_wish(row),))))
            self.assertIs(is_lexicon(lexicon), True)
            self.is_sentence(lexicon, ("a", "b"))


if __name__ == "__main__":
    unittest.main()
