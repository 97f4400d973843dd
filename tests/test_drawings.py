import random
import unittest

from tests.things import NUMBERS, TEXTS, TUPLES, bent, odd_things
from tests.trials import chance_lexicon, choices_of, signs_by_hand, words_drawings_by_trial
from wordwishes.arcs import is_drawing, ways
from wordwishes.drawings import drawing_at, many, number_of
from wordwishes.errors import NoDrawing, NoNumber, NoWord
from wordwishes.lexicons import is_lexicon
from wordwishes.lexicontexts import read_lexicon
from wordwishes.sentences import sentence

ENGLISH = read_lexicon(
    "goal s; n < np; john: n | np; sees: np.r s np.l | np.r s; the: np n.l; oh: 1 | s s.l; that: s s.l"
)
JOHN_SEES_JOHN = ("john", "sees", "john")
# Each of its signs with turn 1 may go with one or another of its neighbours.
LOOSE = read_lexicon("goal a; w: a a.r | a a.r a.rr a.r | 1; v: a")


class ManyTest(unittest.TestCase):
    def test_none_one_and_several(self):
        self.assertEqual(many(ENGLISH, ()), 0)
        self.assertEqual(many(ENGLISH, ("john",)), 0)
        self.assertEqual(many(ENGLISH, ("that", "john", "sees")), 2)
        self.assertEqual(many(ENGLISH, JOHN_SEES_JOHN), 4)
        self.assertEqual(many(read_lexicon("goal s; a: s"), ("a",)), 1)
        self.assertEqual(many(read_lexicon("goal s; a: s | s s.l s | 1"), ("a",)), 2)

    def test_kinds_without_signs(self):
        lexicon = read_lexicon("goal s; a: s; e: 1; f: 1 | n n.r")
        self.assertEqual(many(lexicon, ("e", "a", "e")), 1)
        self.assertEqual(many(lexicon, ("f", "a", "f", "f")), 8)
        self.assertEqual(many(lexicon, ("e",) * 8), 0)

    def test_several_arcs_of_one_choice(self):
        lexicon = read_lexicon("goal a; w: a a.r; v: a a.r a.rr a.r a")
        for times in range(8):
            self.assertEqual(many(lexicon, ("w",) * times + ("v",)), times + 1)

    def test_against_a_trial_of_all(self):
        chance = random.Random(13)
        counts = []
        for time in range(600):
            lexicon = chance_lexicon(chance, 3, 4, 3, chance.choice(["a", "ab", "abc"]), (0, 1, 2))
            words = tuple([chance.choice("abc") for at in range(chance.randrange(4))])
            counts.append(many(lexicon, words))
            self.assertEqual(counts[-1], len(words_drawings_by_trial(lexicon, words)))
        self.assertGreater(len(set(counts)), 4)

    def test_against_the_sum_over_all_choices(self):
        chance = random.Random(14)
        for time in range(5):
            entries = []
            for word in "abcd":
                rows = [tuple([("a", chance.choice([0, 1, 2])) for at in range(size)]) for size in [1, 2, 4, 5]]
                entries.append((word, tuple(rows)))
            lexicon = ((), "a", tuple(entries))
            words = tuple("abcd")
            right = sum([ways((), signs_by_hand(lexicon, words, choice)) for choice in choices_of(lexicon, words)])
            self.assertEqual(many(lexicon, words), right)


class NumbersTest(unittest.TestCase):
    def looked_at(self, lexicon, words):
        """Each number tells a drawing, all unlike, and the drawing tells its number."""
        right = words_drawings_by_trial(lexicon, words)
        told = [drawing_at(lexicon, words, number) for number in range(many(lexicon, words))]
        self.assertEqual(sorted(told), sorted(right))
        for number, drawing in enumerate(told):
            self.assertIsInstance(drawing, tuple)
            self.assertEqual(number_of(lexicon, words, drawing), number)
        for drawing in right:
            self.assertEqual(drawing_at(lexicon, words, number_of(lexicon, words, drawing)), drawing)
        self.assertEqual(sentence(lexicon, words)[0] == "sentence", len(told) > 0)
        return len(told)

    def test_few(self):
        self.assertEqual(self.looked_at(ENGLISH, JOHN_SEES_JOHN), 4)
        self.assertEqual(self.looked_at(ENGLISH, ("that", "john", "sees")), 2)
        self.assertEqual(self.looked_at(ENGLISH, ("john",)), 0)
        self.assertEqual(self.looked_at(ENGLISH, ()), 0)
        self.assertEqual(drawing_at(read_lexicon("goal s; a: s"), ("a",), 0), ((0,), ((0, 1),)))

    def test_many(self):
        self.assertGreater(self.looked_at(LOOSE, ("w", "w", "v")), 10)
        self.assertGreater(self.looked_at(LOOSE, ("w", "v", "w")), 5)
        self.assertGreater(self.looked_at(LOOSE, ("w", "v", "v", "w")), -1)

    def test_by_chance(self):
        chance = random.Random(15)
        most = 0
        for time in range(500):
            lexicon = chance_lexicon(chance, 3, 4, 3, chance.choice(["a", "ab"]), (0, 1, 2))
            words = tuple([chance.choice("abc") for at in range(chance.randrange(1, 4))])
            most = max(most, self.looked_at(lexicon, words))
        self.assertGreater(most, 5)

    def test_all_of_some_thousands(self):
        lexicon = ((), "a", (("w", ((("a", 0), ("a", 1)), (("a", 1), ("a", 0)), (("a", 0),), (("a", 1),))),))
        words = ("w",) * 8
        count = many(lexicon, words)
        self.assertGreater(count, 3000)
        told = set()
        for number in range(count):
            drawing = drawing_at(lexicon, words, number)
            self.assertIs(is_drawing((), signs_by_hand(lexicon, words, drawing[0]), drawing[1]), True)
            self.assertEqual(number_of(lexicon, words, drawing), number)
            told.add(drawing)
        self.assertEqual(len(told), count)

    def test_counts_beyond_what_can_be_gone_through(self):
        self.far_too_many(LOOSE, ("w",) * 7 + ("v",), 3 * 10**4)
        # Somewhat beyond the bounds, to have far more of them.
        self.far_too_many(read_lexicon("goal a; w: 1 | a | a a.r | a a.r a.rr a.r"), ("w",) * 8, 10**5)
        self.far_too_many(read_lexicon("goal a; w: 1 | a | a a.r | a a.r a.rr a.r"), ("w",) * 16, 10**11)

    def test_very_many_arcs_of_one_choice(self):
        turns = [0, 1, 0, 1, 2, 1, 0, 1, 0, 1, 2, 1] * 4
        row = tuple([("a", turn) for turn in turns[:37]])
        words = tuple("abcdefgh")
        entries = tuple([(word, (row[at : at + 5],)) for word, at in zip(words, range(0, 40, 5))])
        self.far_too_many(((), "a", entries), words, 10**3)
        self.assertEqual(many(((), "a", entries), words), ways((), row + (("a", 1),)))

    def far_too_many(self, lexicon, words, least):
        self.assertIs(is_lexicon(lexicon), True)
        count = many(lexicon, words)
        self.assertGreater(count, least)
        chance = random.Random(16)
        numbers = {0, 1, count // 2, count - 2, count - 1} | {chance.randrange(count) for time in range(40)}
        told = set()
        for number in numbers:
            drawing = drawing_at(lexicon, words, number)
            self.assertIs(is_drawing(lexicon[0], signs_by_hand(lexicon, words, drawing[0]), drawing[1]), True)
            self.assertEqual(number_of(lexicon, words, drawing), number)
            told.add(drawing)
        self.assertEqual(len(told), len(numbers))


class NoNumberTest(unittest.TestCase):
    def refused(self, words, number):
        with self.subTest(words=words, number=repr(number)):
            with self.assertRaises(NoNumber):
                drawing_at(ENGLISH, words, number)

    def test_numbers_that_no_drawing_has(self):
        for number in [-1, 4, 5, -4, 10**30, -(10**30), 10**400]:
            self.refused(JOHN_SEES_JOHN, number)
        for number in [0, 1, -1]:
            self.refused(("john",), number)
            self.refused((), number)

    def test_things_of_any_kind(self):
        things = odd_things() + TEXTS + TUPLES + ["0", "-1", (0,), [0], {0: 0}, (1, 2), {}, set()]
        for thing in things:
            self.refused(JOHN_SEES_JOHN, thing)
            self.refused(("john",), thing)


class NoDrawingTest(unittest.TestCase):
    def refused(self, words, thing, lexicon=ENGLISH):
        with self.subTest(words=words, thing=repr(thing)):
            with self.assertRaises(NoDrawing):
                number_of(lexicon, words, thing)

    def test_bent_in_one_place_at_any_depth(self):
        for lexicon, words in [
            (ENGLISH, JOHN_SEES_JOHN),
            (ENGLISH, ("oh", "john", "sees")),
            (LOOSE, ("w", "w", "v")),
            (read_lexicon("goal s; a: s"), ("a",)),
        ]:
            # A truth or a list is alike to no number or tuple by what it shows of itself.
            right = {repr(drawing) for drawing in words_drawings_by_trial(lexicon, words)}
            refused = 0
            for number in range(min(many(lexicon, words), 6)):
                for thing in bent(drawing_at(lexicon, words, number)):
                    if repr(thing) not in right:
                        self.refused(words, thing, lexicon)
                        refused += 1
            self.assertGreater(refused, 200)

    def test_another_choice(self):
        words = ("john", "sees")
        arcs = ((0, 1), (2, 3))
        self.assertIn(number_of(ENGLISH, words, ((0, 1), arcs)), [0, 1])
        for choice in [(0, 0), (0, 2), (2, 1), (-1, 1), (0, -1), (0,), (), (0, 1, 0), (0, True), (False, 1), "01", 0]:
            self.refused(words, (choice, arcs))
        self.refused(words, ([0, 1], arcs))
        self.refused(words, ((0, 10**30), arcs))

    def test_arcs_bent(self):
        words = ("that", "john", "sees")
        arcs = ((0, 5), (1, 4), (2, 3))
        number_of(ENGLISH, words, ((0, 0, 1), arcs))
        for wrong in [
            arcs[1:],
            arcs[:2],
            arcs + ((2, 3),),
            arcs + ((6, 7),),
            ((5, 0), (1, 4), (2, 3)),
            ((0, 5), (2, 3), (1, 4)),
            ((0, 4), (1, 5), (2, 3)),
            ((0, 3), (1, 4), (2, 5)),
            list(arcs),
            ([0, 5], (1, 4), (2, 3)),
            ((False, 5), (1, 4), (2, 3)),
            ((0, 5), (True, 4), (2, 3)),
            ((0, 1), (2, 3), (4, 5)),
            ((0, 5), (1, 4), (2, 3), ()),
            (),
            None,
            "",
        ]:
            self.refused(words, ((0, 0, 1), wrong))

    def test_parts_more_fewer_and_turned_about(self):
        choice, arcs = drawing_at(ENGLISH, JOHN_SEES_JOHN, 0)
        for thing in [(), (choice,), (arcs,), (arcs, choice), (choice, arcs, ()), [choice, arcs], choice + arcs, arcs]:
            self.refused(JOHN_SEES_JOHN, thing)

    def test_a_drawing_of_other_words(self):
        drawing = drawing_at(ENGLISH, JOHN_SEES_JOHN, 0)
        for words in [("john", "sees", "the"), ("john", "sees"), ("john",), (), ("sees", "john", "john")]:
            self.refused(words, drawing)

    def test_things_of_any_kind(self):
        for thing in odd_things() + NUMBERS + TEXTS + TUPLES:
            for words in [JOHN_SEES_JOHN, ("john",), ()]:
                self.refused(words, thing)
                self.refused(words, (thing, thing))
        self.refused((), ((), ()))
        self.refused((), ((), ((0, 1),)))


class NoWordTest(unittest.TestCase):
    def refused(self, question, wrong):
        with self.assertRaises(NoWord) as caught:
            question()
        self.assertEqual(caught.exception.word, wrong)

    def test_the_first_one_ahead_of_all_else(self):
        for words, wrong in [
            (("x",), "x"),
            (("",), ""),
            (("john", "", "x"), ""),
            (("john", "sees", "jon"), "jon"),
            (("john", "x", "y", "john"), "x"),
        ]:
            self.refused(lambda: many(ENGLISH, words), wrong)
            for thing in odd_things() + NUMBERS + TEXTS + TUPLES:
                self.refused(lambda: drawing_at(ENGLISH, words, thing), wrong)
                self.refused(lambda: number_of(ENGLISH, words, thing), wrong)
            self.refused(lambda: number_of(ENGLISH, words, ((0,) * len(words), ())), wrong)


if __name__ == "__main__":
    unittest.main()
