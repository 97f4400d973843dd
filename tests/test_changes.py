import copy
import random
import unittest

from tests.things import NUMBERS, TEXTS, TUPLES, AlikeToAll, bent, odd_things, unshown_things
from tests.trials import chance_lexicon, words_drawings_by_trial
from wordwishes.arcs import is_drawing
from wordwishes.changes import mirrored, mirrored_drawing, put_in, shortened, taken_out
from wordwishes.drawings import drawing_at, many, number_of
from wordwishes.errors import NoDrawing, NoLexicon, NoWord
from wordwishes.lexicons import is_lexicon, kinds_of
from wordwishes.lexicontexts import read_lexicon, show_lexicon
from wordwishes.plainrows import plain_rows
from wordwishes.sentences import sentence, signs_of

ENGLISH = read_lexicon(
    "goal s; n < np; john: n | np; sees: np.r s np.l | np.r s; the: np n.l; oh: 1 | s s.l; that: s s.l"
)
N = (("n", 0),)


def plain(*turns):
    return tuple([("a", turn) for turn in turns])


def of_words(many_words):
    return ((), "s", tuple([("abcdefghij"[at], (N,)) for at in range(many_words)]))


class MirroredTest(unittest.TestCase):
    def test_each_kinds_mirror_image(self):
        self.assertEqual(
            show_lexicon(mirrored(ENGLISH)),
            "goal s; n < np; john: n | np; sees: np.r s np.l | s np.l; the: n.r np; oh: 1 | s.r s; that: s.r s",
        )
        far = ((), "s", (("a", ((("n", 99), ("m", 0), ("n", -98)),)),))
        self.assertEqual(mirrored(far), ((), "s", (("a", ((("n", 98), ("m", 0), ("n", -99)),)),)))

    def test_twice_it_is_itself(self):
        chance = random.Random(19)
        for time in range(200):
            lexicon = chance_lexicon(chance, 3, 4, 5, "abc", (-2, -1, 0, 1, 2))
            told = mirrored(lexicon)
            self.assertIs(is_lexicon(told), True)
            self.assertEqual(mirrored(told), lexicon)
            for (word, kinds), (same, images) in zip(lexicon[2], told[2]):
                self.assertEqual(word, same)
                for kind, image in zip(kinds, images):
                    self.assertEqual([mark for mark, turn in image], [mark for mark, turn in kind][::-1])
                    self.assertEqual([turn for mark, turn in image], [-turn for mark, turn in kind][::-1])
            self.assertEqual(told[:2], lexicon[:2])

    def test_words_are_a_sentence_just_where_they_are_one_mirrored(self):
        chance = random.Random(20)
        told = []
        for time in range(300):
            lexicon = chance_lexicon(chance, 3, 3, 3, "ab")
            words = tuple([chance.choice("abc") for at in range(chance.randrange(5))])
            self.assertEqual(many(lexicon, words), many(mirrored(lexicon), words[::-1]))
            told.append(many(lexicon, words) > 0)
            self.assertEqual(sentence(mirrored(lexicon), words[::-1])[0] == "sentence", told[-1])
        self.assertGreater(told.count(True), 30)


class MirroredDrawingTest(unittest.TestCase):
    def looked_at(self, lexicon, words, drawing):
        told = mirrored_drawing(lexicon, words, drawing)
        choice, arcs = told
        self.assertIsInstance(choice, tuple)
        self.assertEqual(choice, drawing[0][::-1])
        there = mirrored(lexicon)
        row = signs_of(there, words[::-1], choice)
        self.assertIs(is_drawing(lexicon[0], row, arcs), True)
        self.assertEqual(row[-1], (lexicon[1], 1))
        last = len(row) - 1
        turned = {at: last - 1 - at for at in range(last)} | {last: last}
        self.assertEqual(set(arcs), {tuple(sorted([turned[i], turned[j]])) for i, j in drawing[1]})
        self.assertEqual(list(arcs), sorted(arcs))
        self.assertEqual(mirrored_drawing(there, words[::-1], told), drawing)
        return told

    def test_a_word(self):
        lexicon = read_lexicon("goal s; a: s | s n n.r")
        self.assertEqual(self.looked_at(lexicon, ("a",), ((0,), ((0, 1),))), ((0,), ((0, 1),)))
        self.assertEqual(self.looked_at(lexicon, ("a",), ((1,), ((0, 3), (1, 2)))), ((1,), ((0, 1), (2, 3))))

    def test_several_words(self):
        words = ("john", "sees", "the", "john")
        drawing = ((0, 0, 0, 0), ((0, 1), (2, 7), (3, 4), (5, 6)))
        self.assertEqual(
            self.looked_at(ENGLISH, words, drawing), ((0, 0, 0, 0), ((0, 1), (2, 3), (4, 7), (5, 6)))
        )
        for words in [("john", "sees"), ("john", "sees", "john"), ("oh", "that", "john", "sees", "oh")]:
            for number in range(many(ENGLISH, words)):
                self.looked_at(ENGLISH, words, drawing_at(ENGLISH, words, number))

    def test_by_chance(self):
        chance = random.Random(21)
        told = 0
        for time in range(400):
            lexicon = chance_lexicon(chance, 3, 4, 3, "ab", (-1, 0, 1))
            words = tuple([chance.choice("abc") for at in range(chance.randrange(1, 4))])
            images = set()
            for drawing in words_drawings_by_trial(lexicon, words):
                images.add(self.looked_at(lexicon, words, drawing))
                told += 1
            self.assertEqual(len(images), many(lexicon, words))
        self.assertGreater(told, 50)

    def test_no_word(self):
        for words, wrong in [(("x",), "x"), (("",), ""), (("john", "y", "x"), "y"), (("john", "sees", "jon"), "jon")]:
            for thing in odd_things() + NUMBERS + TUPLES + [((0,) * len(words), ())]:
                with self.assertRaises(NoWord) as caught:
                    mirrored_drawing(ENGLISH, words, thing)
                self.assertEqual(caught.exception.word, wrong)

    def refused(self, words, thing):
        with self.subTest(words=words, thing=repr(thing)):
            with self.assertRaises(NoDrawing):
                mirrored_drawing(ENGLISH, words, thing)

    def test_drawings_bent_in_one_place_at_any_depth(self):
        for words in [("john", "sees", "john"), ("that", "john", "sees")]:
            right = {repr(drawing) for drawing in words_drawings_by_trial(ENGLISH, words)}
            refused = 0
            for number in range(many(ENGLISH, words)):
                for thing in bent(drawing_at(ENGLISH, words, number)):
                    if repr(thing) not in right:
                        self.refused(words, thing)
                        refused += 1
            self.assertGreater(refused, 500)

    def test_things_of_any_kind(self):
        for thing in odd_things() + NUMBERS + TEXTS + TUPLES:
            for words in [("john", "sees"), ("john",), ()]:
                self.refused(words, thing)

    def test_no_words(self):
        self.refused((), ((), ()))
        self.refused((), ((), ((0, 1),)))


class PutInTest(unittest.TestCase):
    def test_at_the_end(self):
        told = put_in(ENGLISH, "mary", (N, ()))
        self.assertEqual(told, ENGLISH[:2] + (ENGLISH[2] + (("mary", (N, ())),),))
        self.assertEqual(kinds_of(told, "mary"), (N, ()))

    def test_in_the_words_place(self):
        order, goal, entries = ENGLISH
        for at, (word, kinds) in enumerate(entries):
            told = put_in(ENGLISH, word, (plain(1, 2),))
            self.assertEqual(told, (order, goal, entries[:at] + ((word, (plain(1, 2),)),) + entries[at + 1 :]))
            self.assertEqual(put_in(told, word, kinds), ENGLISH)

    def test_words_at_the_bound_and_beyond(self):
        told = put_in(of_words(9), "j", (N,))
        self.assertEqual(told, of_words(10))
        with self.assertRaises(NoLexicon):
            put_in(of_words(10), "k", (N,))
        self.assertEqual(kinds_of(put_in(of_words(10), "j", (plain(3),)), "j"), (plain(3),))

    def refused(self, word, kinds):
        with self.subTest(word=repr(word), kinds=repr(kinds)):
            for lexicon in [ENGLISH, of_words(1), of_words(10)]:
                with self.assertRaises(NoLexicon):
                    put_in(lexicon, word, kinds)

    def test_kinds_at_the_bound_and_beyond(self):
        kinds = (N, (), plain(0), plain(1, 1, 1, 1, 1))
        for many_kinds in range(1, 5):
            self.assertEqual(kinds_of(put_in(ENGLISH, "john", kinds[:many_kinds]), "john"), kinds[:many_kinds])
        for word in ["john", "a", "mary"]:
            self.refused(word, ())
            self.refused(word, kinds + (plain(7),))
            self.refused(word, (N, N))
            self.refused(word, (N, (), N))
            self.refused(word, (plain(0, 0, 0, 0, 0, 0),))
            self.refused(word, (N, plain(0, 0, 0, 0, 0, 0)))
            self.refused(word, (plain(100),))
            self.refused(word, (plain(-100),))
            self.refused(word, ((("A", 0),),))
            self.refused(word, ((("n", True),),))

    def test_words_that_are_none(self):
        for word in odd_things() + NUMBERS + TUPLES + ["", "A", "abcdefghi", "a b", "a\n", "a1", AlikeToAll()]:
            self.refused(word, (N,))

    def test_words_and_kinds_that_cannot_be_shown(self):
        for thing in unshown_things():
            asked = [(thing, (N,)), (thing, thing), ("a", thing), ("john", (thing,)), ("a", ((thing,),))]
            for lexicon in [ENGLISH, of_words(1), of_words(10)]:
                for word, kinds in asked:
                    with self.assertRaises(NoLexicon):
                        put_in(lexicon, word, kinds)

    def test_kinds_that_are_none(self):
        # The tuple of the tuple without parts is a kind without signs alone.
        tuples = [thing for thing in TUPLES if thing != ((),)]
        for thing in odd_things() + NUMBERS + TEXTS + tuples + [N, [N], ([],), (["n"],)]:
            self.refused("john", thing)
            self.refused("a", thing)
            self.refused("mary", thing)
            self.refused(thing, thing)

    def test_kinds_bent_in_one_place(self):
        right = (N, plain(0, 1))
        for thing in bent(right):
            changed = ((), "s", (("a", thing),))
            if is_lexicon(changed):
                self.assertEqual(put_in(of_words(1), "a", thing), changed)
            else:
                self.refused("a", thing)

    def test_what_is_handed_in_stays(self):
        lexicon = copy.deepcopy(ENGLISH)
        kinds = [N]
        with self.assertRaises(NoLexicon):
            put_in(lexicon, "mary", kinds)
        put_in(lexicon, "mary", (N,))
        put_in(lexicon, "john", (N,))
        self.assertEqual(lexicon, ENGLISH)
        self.assertEqual(kinds, [N])


class TakenOutTest(unittest.TestCase):
    def test_a_word_with_all_its_kinds(self):
        order, goal, entries = ENGLISH
        for at, (word, kinds) in enumerate(entries):
            told = taken_out(ENGLISH, word)
            self.assertEqual(told, (order, goal, entries[:at] + entries[at + 1 :]))
            with self.assertRaises(NoWord):
                sentence(told, (word,))

    def test_put_in_and_taken_out(self):
        self.assertEqual(taken_out(put_in(ENGLISH, "mary", (N,)), "mary"), ENGLISH)
        self.assertEqual(taken_out(of_words(10), "j"), of_words(9))

    def test_the_last_word(self):
        with self.assertRaises(NoLexicon):
            taken_out(of_words(1), "a")

    def test_a_word_that_is_not_there(self):
        for lexicon in [ENGLISH, of_words(1), of_words(10)]:
            for word in ["", "x", "johns", "JOHN", "john ", "goal", "n", "s", "a" * 20, "\n"]:
                with self.assertRaises(NoWord) as caught:
                    taken_out(lexicon, word)
                self.assertEqual(caught.exception.word, word)

    def test_whatever_is_handed_in_for_the_word(self):
        for lexicon in [ENGLISH, of_words(1), of_words(10)]:
            for word in odd_things() + NUMBERS + TUPLES + unshown_things():
                with self.assertRaises(NoWord) as caught:
                    taken_out(lexicon, word)
                self.assertIs(caught.exception.word, word)

    def test_sentences_without_the_word_stay(self):
        told = taken_out(put_in(ENGLISH, "mary", (N,)), "oh")
        self.assertEqual(sentence(told, ("mary", "sees", "john"))[0], "sentence")
        self.assertEqual(many(told, ("john", "sees")), many(ENGLISH, ("john", "sees")))


class ShortenedTest(unittest.TestCase):
    def looked_at(self, lexicon):
        """Each kind by its plain rows in their order, alike ones of a word once, at their first place."""
        entries = []
        for word, kinds in lexicon[2]:
            rows = []
            for kind in kinds:
                for row in plain_rows(lexicon[0], kind):
                    if row not in rows:
                        rows.append(row)
            entries.append((word, tuple(rows)))
        right = (lexicon[0], lexicon[1], tuple(entries))
        if max([len(kinds) for word, kinds in entries]) > 4:
            with self.assertRaises(NoLexicon):
                shortened(lexicon)
            return None
        told = shortened(lexicon)
        self.assertEqual(told, right)
        self.assertIs(is_lexicon(told), True)
        self.assertEqual(shortened(told), told)
        return told

    def test_a_lexicon_of_plain_kinds_stays(self):
        self.assertEqual(shortened(ENGLISH), ENGLISH)
        self.assertEqual(shortened(of_words(10)), of_words(10))

    def test_kinds_give_way_to_their_plain_rows(self):
        lexicon = read_lexicon("goal a; n < m; w: a a.r | n m.r a; v: a a.r a.rr a; u: a.r a.rr a.r")
        self.assertEqual(show_lexicon(self.looked_at(lexicon)), "goal a; n < m; w: 1 | a; v: a a | a.rr a; u: a.r")

    def test_alike_ones_once_at_their_first_place(self):
        lexicon = read_lexicon("goal a; w: a.rr | a a.r a.rr | a; v: a | n n.r a | a a.r a; u: b | a a.r a.rr | a.rr")
        self.assertEqual(show_lexicon(self.looked_at(lexicon)), "goal a; w: a.rr | a; v: a; u: b | a | a.rr")

    def test_four_and_more_than_four(self):
        lexicon = read_lexicon("goal a; w: a a.r a.rr | b b.r b.rr")
        self.assertEqual(show_lexicon(self.looked_at(lexicon)), "goal a; w: a | a.rr | b | b.rr")
        self.assertIsNone(self.looked_at(read_lexicon("goal a; w: a a.r a.rr | b b.r b.rr | c")))
        self.assertIsNone(self.looked_at(read_lexicon("goal a; v: a; w: a a.r a.rr | b b.r b.rr | c c.r c.rr; u: a")))
        self.assertIsNotNone(self.looked_at(read_lexicon("goal a; w: a a.r a.rr | b b.r b.rr | b.rr | a")))

    def test_by_chance(self):
        chance = random.Random(22)
        told = []
        for time in range(400):
            told.append(self.looked_at(chance_lexicon(chance, 3, 4, 5, "ab", (0, 1, 2))))
        self.assertGreater(told.count(None), 5)
        self.assertGreater(len(told) - told.count(None), 100)

    def test_what_is_a_sentence_shortened_is_one_in_the_lexicon(self):
        chance = random.Random(23)
        sentences = 0
        for time in range(300):
            lexicon = chance_lexicon(chance, 3, 2, 5, "a", (0, 1, 2))
            words = tuple([chance.choice("abc") for at in range(chance.randrange(1, 5))])
            told = self.looked_at(lexicon)
            if told is not None and sentence(told, words)[0] == "sentence":
                self.assertEqual(sentence(lexicon, words)[0], "sentence")
                sentences += 1
        self.assertGreater(sentences, 20)

    def test_what_is_handed_in_stays(self):
        lexicon = read_lexicon("goal a; w: a a.r a.rr | a")
        before = copy.deepcopy(lexicon)
        shortened(lexicon)
        mirrored(lexicon)
        self.assertEqual(lexicon, before)


class FitTest(unittest.TestCase):
    def test_mirrored_and_shortened_in_either_order(self):
        # Mirrored, the plain rows of a kind are those of its image, perhaps in another order.
        chance = random.Random(24)
        for time in range(100):
            lexicon = chance_lexicon(chance, 2, 2, 4, "ab", (-1, 0, 1))
            one, other = mirrored(shortened(lexicon)), shortened(mirrored(lexicon))
            for (word, kinds), (same, rows) in zip(one[2], other[2]):
                self.assertEqual((word, sorted(kinds)), (same, sorted(rows)))

    def test_the_numbers_of_drawings_go_along(self):
        words = ("john", "sees", "john")
        there = mirrored(ENGLISH)
        numbers = [
            number_of(there, words[::-1], mirrored_drawing(ENGLISH, words, drawing_at(ENGLISH, words, number)))
            for number in range(many(ENGLISH, words))
        ]
        self.assertEqual(sorted(numbers), list(range(many(ENGLISH, words))))


if __name__ == "__main__":
    unittest.main()
