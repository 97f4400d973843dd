import unittest

from tests.things import NUMBERS, TUPLES, odd_things
from wordwishes.errors import NoText
from wordwishes.lexicons import is_lexicon
from wordwishes.lexicontexts import read_lexicon, show_lexicon

N = (("n", 0),)
VERB = (("n", 1), ("s", 0), ("n", -1))
PAIRS = tuple([(low, high) for low in "ab" for high in "wxyz"])
WORDS = ["a", "b", "c", "d", "e", "f", "g", "h", "i", "abcdefgh"]

WRITTEN = [
    (((), "s", (("oh", ((),)),)), "goal s; oh: 1"),
    (
        ((("n", "np"), ("q", "s")), "s", (("john", (N, (("np", 0),))), ("sees", (VERB,)))),
        "goal s; n < np; q < s; john: n | np; sees: n.r s n.l",
    ),
    (
        ((("goal", "goal"),), "goal", (("goal", ((), (("goal", 2),))),)),
        "goal goal; goal < goal; goal: 1 | goal.rr",
    ),
    (
        ((("a", "b"), ("a", "b")), "s", (("z", (N,)), ("a", (N,)))),
        "goal s; a < b; a < b; z: n; a: n",
    ),
    (
        ((), "s", (("a", ((("n", 99),), (("n", -99),))),)),
        "goal s; a: n." + "r" * 99 + " | n." + "l" * 99,
    ),
    (
        (PAIRS, "abcdefgh", tuple([(word, (N, VERB, (), N * 5)) for word in WORDS])),
        "; ".join(
            ["goal abcdefgh"]
            + [low + " < " + high for low, high in PAIRS]
            + [word + ": n | n.r s n.l | 1 | n n n n n" for word in WORDS]
        ),
    ),
]

# Each is wrong by itself, wherever it stands behind the goal.
WRONG_PARTS = [
    "",
    " ",
    "\n",
    "goal s",
    "goal",
    "n",
    "n <",
    "< n",
    "n < ",
    " < n",
    " < ",
    "n<m",
    "n <m",
    "n< m",
    "n  < m",
    "n <  m",
    " n < m",
    "n < m ",
    "n < m\n",
    "n < m < o",
    "n < M",
    "N < m",
    "n > m",
    "n <= m",
    "n < abcdefghi",
    "abcdefghi < n",
    "n.r < m",
    "n < 1",
    ":",
    ": ",
    ": n",
    "w:",
    "w: ",
    "w:n",
    "w :n",
    "w : n",
    " w: n",
    "w:  n",
    "w: n ",
    "w: n\n",
    "w\n: n",
    "W: n",
    "w1: n",
    "w v: n",
    "abcdefghi: n",
    "w: n: n",
    "w: v: n",
    "w: n.",
    "w: n.rl",
    "w: n.x",
    "w: N",
    "w: n  m",
    "w: abcdefghi",
    "w: 2",
    "w: 1 n",
    "w: n 1",
    "w: n|m",
    "w: n |m",
    "w: n| m",
    "w: n | ",
    "w: n |",
    "w:  | n",
    "w: | n",
    "w: n |  | m",
    "w: n | | m",
    "w: n  | m",
    "w: n |  m",
    "w: n || m",
    "w: n | m | n",
    "w: n | n",
    "w: 1 | 1",
    "w: a | b | c | d | e",
    "w: n n n n n n",
    "w: m | n n n n n n",
    "w: n." + "r" * 100,
    "w: n." + "l" * 100,
    "w: n | m." + "r" * 100,
    "w: n;v: m",
    "w: n;",
    "w: n , v: m",
    "w = n",
]


class ShowLexiconTest(unittest.TestCase):
    def test_how_lexicons_are_written(self):
        for lexicon, text in WRITTEN:
            with self.subTest(text):
                self.assertEqual(show_lexicon(lexicon), text)


class ReadLexiconTest(unittest.TestCase):
    def refused(self, thing, part):
        with self.subTest(repr(thing)):
            with self.assertRaises(NoText) as caught:
                read_lexicon(thing)
            self.assertEqual(caught.exception.part, part)
            self.assertNotIsInstance(caught.exception.part, bool)

    def tuples_throughout(self, thing):
        if isinstance(thing, tuple):
            for part in thing:
                self.tuples_throughout(part)
        else:
            self.assertIsInstance(thing, (str, int))

    def test_how_lexicons_are_read(self):
        for lexicon, text in WRITTEN:
            with self.subTest(text):
                told = read_lexicon(text)
                self.assertEqual(told, lexicon)
                self.assertIs(is_lexicon(told), True)
                self.tuples_throughout(told)

    def test_the_goal_is_the_first_part(self):
        for first in [
            "", "goal", "goal ", " goal s", "goal  s", "goal s ", "goal S", "goal 1", "goal s.r", "goal abcdefghi",
            "goal: s", "goal < s", "goals", "Goal s", "goal s t", "aim s", "w: n", "n < m", "goal s\n", "\ngoal s",
            "goal s;", ";goal s", "s", "goal goal s", "goal\ns", "goal\ts",
        ]:
            self.refused(first, 0)
            self.refused(first + "; w: n", 0)
            self.refused(first + "; goal s; w: n", 0)
            self.refused(first + "; ; ; ", 0)

    def test_wrong_parts_at_any_place(self):
        for wrong in WRONG_PARTS:
            self.refused("goal s; " + wrong, 1)
            self.refused("goal s; " + wrong + "; z: n", 1)
            self.refused("goal s; a < b; " + wrong + "; c < d; z: n", 2)
            self.refused("goal s; a < b; y: n; " + wrong + "; z: n", 3)
            self.refused("goal s; a < b; y: n; z: n; " + wrong, 4)

    def test_the_first_of_several_faults_is_told(self):
        for wrong in WRONG_PARTS:
            for behind in ["", "goal s", "a < b", "y: n", "n.", "w: n | n"]:
                self.refused("goal s; y: n; " + wrong + "; " + behind, 2)
                self.refused("goal s; a < b; " + wrong + "; " + behind + "; z: n", 2)

    def test_a_goal_behind_the_first_part(self):
        self.refused("goal s; goal s", 1)
        self.refused("goal s; goal n; w: n", 1)
        self.refused("goal s; w: n; goal s", 2)

    def test_a_pair_behind_an_entry(self):
        self.refused("goal s; w: n; a < b", 2)
        self.refused("goal s; a < b; w: n; a < b; v: n", 3)
        self.refused("goal s; a < b; w: n; v: n; c < d", 4)

    def test_a_ninth_pair(self):
        pairs = "; ".join(["a < b"] * 8)
        self.assertEqual(len(read_lexicon("goal s; " + pairs + "; w: n")[0]), 8)
        self.refused("goal s; " + pairs + "; a < b; w: n", 9)
        self.refused("goal s; " + pairs + "; a < b", 9)
        self.refused("goal s; " + pairs + "; a < b; c < d; w: n; ", 9)

    def test_an_eleventh_entry(self):
        entries = "; ".join([word + ": n" for word in WORDS])
        self.assertEqual(len(read_lexicon("goal s; " + entries)[2]), 10)
        self.refused("goal s; " + entries + "; k: n", 11)
        self.refused("goal s; a < b; " + entries + "; k: n; l: n", 12)

    def test_a_word_told_ahead(self):
        self.refused("goal s; w: n; w: n", 2)
        self.refused("goal s; w: n; v: n; w: m", 3)
        self.refused("goal s; w: n; v: n; v: m; u: n; w: n", 3)

    def test_kinds_at_the_bounds(self):
        self.assertEqual(len(read_lexicon("goal s; w: a | b | c | 1")[2][0][1]), 4)
        self.assertEqual(len(read_lexicon("goal s; w: n n n n n")[2][0][1][0]), 5)
        self.refused("goal s; w: a | b | c | d | e; v: n", 1)
        self.refused("goal s; v: n; w: n n n n n n", 2)

    def test_no_entries(self):
        self.refused("goal s", None)
        self.refused("goal s; a < b", None)
        self.refused("goal s; " + "; ".join(["a < b"] * 8), None)

    def test_no_entries_and_a_wrong_part(self):
        self.refused("goal s; a < B", 1)
        self.refused("goal s; a < b; ", 2)
        self.refused("goal s; ", 1)

    def test_the_text_without_signs(self):
        self.refused("", 0)

    def test_parted_otherwise(self):
        self.refused("goal s;w: n", 0)
        self.refused("goal s ; w: n", 0)
        self.refused("goal s, w: n", 0)
        self.refused("goal s\nw: n", 0)
        self.refused("goal s;; w: n", 0)
        self.refused("goal s;\nw: n", 0)
        self.refused("goal s;  w: n", 1)
        self.refused("goal s; ; w: n", 1)
        self.refused("goal s; w: n;v: n", 1)
        self.refused("goal s; w: n ; v: n", 1)
        self.refused("goal s; w: n, v: n", 1)
        self.refused("goal s; w: n\n; v: n", 1)
        self.refused("goal s; w: n;; v: n", 1)
        self.refused("goal s; w: n;  v: n", 2)
        self.refused("goal s; w: n; \nv: n", 2)
        self.refused("goal s; w: n; ", 2)
        self.refused("goal s; w: n;", 1)
        self.refused("; goal s; w: n", 0)
        self.refused(" goal s; w: n", 0)
        self.refused("goal s; w: n ", 1)
        self.refused("goal s; w: n\n", 1)

    def test_things_that_are_no_text(self):
        for thing in odd_things() + NUMBERS + TUPLES + [b"goal s; w: n", ["goal s; w: n"], WRITTEN[0][0]]:
            self.refused(thing, None)


if __name__ == "__main__":
    unittest.main()
