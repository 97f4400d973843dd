import unittest

from tests.things import NUMBERS, TEXTS, TUPLES, odd_things
from wordwishes.errors import NoWord
from wordwishes.lexicons import is_lexicon, kinds_of, marks_of

N = (("n", 0),)
S = (("s", 0),)
VERB = (("n", 1), ("s", 0), ("n", -1))
PAIRS = tuple([(low, high) for low in "ab" for high in "wxyz"])
KINDS = (N, S, VERB, ())
WORDS = ["a", "b", "c", "d", "e", "f", "g", "h", "i", "abcdefgh"]

LEXICON = (
    (("n", "np"), ("q", "s")),
    "s",
    (("john", (N, (("np", 0),))), ("sees", (VERB,)), ("oh", ((),))),
)


def with_entries(entries):
    return ((), "s", entries)


def with_kinds(kinds):
    return with_entries((("john", kinds),))


class IsLexiconTest(unittest.TestCase):
    def is_one(self, thing):
        self.assertIs(is_lexicon(thing), True)

    def is_none(self, thing):
        with self.subTest(repr(thing)):
            self.assertIs(is_lexicon(thing), False)

    def test_lexicons(self):
        self.is_one(LEXICON)
        self.is_one(((), "s", (("a", ((),)),)))
        self.is_one(((), "abcdefgh", (("goal", (N,)),)))

    def test_pairs_at_the_bound_and_beyond(self):
        self.is_one((PAIRS, "s", (("a", (N,)),)))
        self.is_one(((("a", "a"),) * 8, "s", (("a", (N,)),)))
        self.is_none((PAIRS + (("c", "z"),), "s", (("a", (N,)),)))

    def test_words_at_the_bound_and_beyond(self):
        for many in range(1, 11):
            self.is_one(with_entries(tuple([(word, KINDS) for word in WORDS[:many]])))
        self.is_none(with_entries(()))
        self.is_none(with_entries(tuple([(word, (N,)) for word in WORDS + ["k"]])))

    def test_kinds_at_the_bound_and_beyond(self):
        for many in range(1, 5):
            self.is_one(with_kinds(KINDS[:many]))
        self.is_none(with_kinds(()))
        self.is_none(with_kinds(KINDS + (N + N,)))

    def test_signs_at_the_bound_and_beyond(self):
        for many in range(6):
            self.is_one(with_kinds((N * many,)))
        self.is_none(with_kinds((N * 6,)))
        self.is_none(with_kinds((N, N * 6)))

    def test_turns_at_the_bound_and_beyond(self):
        self.is_one(with_kinds(((("n", 99), ("n", -99)),)))
        for turn in [100, -100, True, False, None, "r", (0,), [0]]:
            self.is_none(with_kinds(((("n", turn),),)))
            self.is_none(with_kinds((N, (("n", 0), ("n", turn)))))

    def test_words_alike(self):
        self.is_none(with_entries((("a", (N,)), ("a", (N,)))))
        self.is_none(with_entries((("a", (N,)), ("b", (N,)), ("a", (S,)))))

    def test_kinds_alike(self):
        self.is_none(with_kinds((N, N)))
        self.is_none(with_kinds((N, S, N)))
        self.is_none(with_kinds(((), VERB, ())))
        self.is_one(with_entries((("a", (N,)), ("b", (N,)))))

    def test_lists_at_any_depth(self):
        order, goal, entries = LEXICON
        self.is_none([order, goal, entries])
        self.is_none((list(order), goal, entries))
        self.is_none((([*order[0]], order[1]), goal, entries))
        self.is_none((order, [goal], entries))
        self.is_none((order, goal, list(entries)))
        self.is_none((order, goal, (list(entries[0]), entries[1])))
        self.is_none((order, goal, (["john"], (N,))))
        self.is_none((order, goal, ((["john"], (N,)),)))
        self.is_none((order, goal, (("john", [N]),)))
        self.is_none((order, goal, (("john", (list(N),)),)))
        self.is_none((order, goal, (("john", ((["n", 0],),)),)))
        self.is_none((order, goal, (("john", (((["n"], 0),),)),)))

    def test_parts_more_or_fewer(self):
        order, goal, entries = LEXICON
        self.is_none(())
        self.is_none((order,))
        self.is_none((order, goal))
        self.is_none((goal, entries))
        self.is_none((order, goal, entries, ()))
        self.is_none((order, goal) + entries)
        self.is_none(with_entries(("john", (N,))))
        self.is_none(with_entries((("john",),)))
        self.is_none(with_entries((("john", (N,), ()),)))
        self.is_none(with_entries((("john", N),)))
        self.is_none(with_kinds(((("n",),),)))
        self.is_none(with_kinds(((("n", 0, 0),),)))
        self.is_none(((("a",),), goal, entries))
        self.is_none(((("a", "b", "c"),), goal, entries))

    def test_words_and_goals_that_are_none(self):
        for wrong in odd_things() + NUMBERS + TUPLES + ["", "A", "abcdefghi", "a b", "a\n", "a1", "a.r"]:
            self.is_none(((), wrong, (("a", (N,)),)))
            self.is_none(with_entries(((wrong, (N,)),)))
            self.is_none(with_entries((("a", (N,)), (wrong, (N,)))))

    def test_things_of_any_kind(self):
        for thing in odd_things() + NUMBERS + TEXTS + TUPLES:
            self.is_none(thing)
            self.is_none((thing, thing, thing))
            self.is_none(((), "s", thing))
            self.is_none(with_entries((thing,)))
            self.is_none(with_entries((("a", (N,)), thing)))
        # The tuple without parts is an order and a kind, and the one with it alone is kinds.
        for thing in odd_things() + NUMBERS + TEXTS + [thing for thing in TUPLES if thing not in [(), ((),)]]:
            self.is_none((thing, "s", (("a", (N,)),)))
            self.is_none(with_kinds(thing))
            self.is_none(with_kinds((thing,)))
            self.is_none(with_kinds((N, thing)))


class KindsOfTest(unittest.TestCase):
    def test_a_word_that_is_there(self):
        self.assertEqual(kinds_of(LEXICON, "john"), (N, (("np", 0),)))
        self.assertEqual(kinds_of(LEXICON, "sees"), (VERB,))
        self.assertEqual(kinds_of(LEXICON, "oh"), ((),))

    def test_a_word_that_is_not_there(self):
        for word in ["joh", "johns", "JOHN", "", "john ", "n", "s", "goal", "a" * 50, "\n"]:
            with self.subTest(word):
                with self.assertRaises(NoWord) as caught:
                    kinds_of(LEXICON, word)
                self.assertEqual(caught.exception.word, word)


class MarksOfTest(unittest.TestCase):
    def test_marks_of_order_goal_and_kinds(self):
        self.assertEqual(marks_of(LEXICON), ["n", "np", "q", "s"])

    def test_each_of_them_alone(self):
        bare = (("w", ((),)),)
        self.assertEqual(marks_of(((), "s", bare)), ["s"])
        self.assertEqual(marks_of(((("z", "b"),), "s", bare)), ["b", "s", "z"])
        self.assertEqual(marks_of(((), "s", (("w", (VERB,)),))), ["n", "s"])
        kinds = ((("x", 0), ("c", 3)), (("d", -1),))
        self.assertEqual(marks_of(((), "s", (("w", ((),)), ("v", kinds)))), ["c", "d", "s", "x"])

    def test_rising_each_once(self):
        lexicon = ((("b", "a"), ("a", "b"), ("ab", "b")), "b", (("w", ((("b", 0), ("aa", 1), ("b", 2)),)),))
        told = marks_of(lexicon)
        self.assertEqual(told, ["a", "aa", "ab", "b"])
        self.assertIsInstance(told, list)

    def test_a_told_list_that_is_changed_changes_nothing(self):
        told = marks_of(LEXICON)
        told.reverse()
        told.append("x")
        self.assertEqual(marks_of(LEXICON), ["n", "np", "q", "s"])


if __name__ == "__main__":
    unittest.main()
