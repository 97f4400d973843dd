import itertools
import unittest

from tests.things import NUMBERS, TUPLES, odd_things
from wordwishes.errors import NoText
from wordwishes.rowtexts import read_row, show_row
from wordwishes.signs import is_row

WRITTEN = [
    ((), "1"),
    ((("n", 0),), "n"),
    ((("n", 1),), "n.r"),
    ((("n", -1),), "n.l"),
    ((("n", 3), ("s", 0), ("abcdefgh", -2)), "n.rrr s abcdefgh.ll"),
    ((("r", 1), ("l", -1), ("rl", 0)), "r.r l.l rl"),
    ((("n", 99),), "n." + "r" * 99),
    ((("n", -99),), "n." + "l" * 99),
    ((("a", 0), ("a", 0)), "a a"),
]

WRONG = [
    "",
    " ",
    "  ",
    "\n",
    ".",
    ".r",
    "r.",
    "n.",
    "n. s",
    "n .r",
    "n. r",
    "n..r",
    "n.r.",
    "n.r.r",
    "n.rl",
    "n.lr",
    "n.rrl",
    "n.x",
    "n.R",
    "n.1",
    "n.0",
    "N",
    "nN",
    "abcdefghi",
    "abcdefghi.r",
    "n." + "r" * 100,
    "n." + "l" * 100,
    "n." + "r" * 5000,
    "1 n",
    "n 1",
    "1 1",
    "11",
    "1.r",
    "1.",
    "0",
    "2",
    "n1",
    "n,s",
    "n, s",
    "n;s",
    "n | s",
    "n|s",
    "n\ts",
    "n\ns",
    "n-s",
    "~",
    "n<s",
    "n: s",
    "(n, 0)",
]


class ShowRowTest(unittest.TestCase):
    def test_how_rows_are_written(self):
        for row, text in WRITTEN:
            with self.subTest(text):
                self.assertEqual(show_row(row), text)


class ReadRowTest(unittest.TestCase):
    def refused(self, thing):
        with self.subTest(repr(thing)):
            with self.assertRaises(NoText) as caught:
                read_row(thing)
            self.assertIsNone(caught.exception.part)

    def test_how_rows_are_read(self):
        for row, text in WRITTEN:
            with self.subTest(text):
                self.assertEqual(read_row(text), row)
                self.assertIs(is_row(read_row(text)), True)

    def test_every_turn_is_written_and_read_back(self):
        for turn in range(-99, 100):
            row = (("ab", turn), ("c", -turn))
            self.assertEqual(read_row(show_row(row)), row)

    def test_all_small_rows_are_written_and_read_back(self):
        signs = [(mark, turn) for mark in ["a", "r", "rl"] for turn in [-2, -1, 0, 1]]
        texts = set()
        for many in range(4):
            for row in itertools.product(signs, repeat=many):
                text = show_row(row)
                self.assertEqual(read_row(text), row)
                texts.add(text)
        self.assertEqual(len(texts), 1 + 12 + 12**2 + 12**3)

    def test_long_rows_are_written_and_read_back(self):
        row = tuple([("abcdefgh"[at % 8 :], at % 199 - 99) for at in range(3000)])
        text = show_row(row)
        self.assertEqual(text.count(" "), 2999)
        self.assertEqual(read_row(text), row)

    def test_texts_that_are_written_otherwise(self):
        for text in WRONG:
            self.refused(text)

    def test_written_otherwise_at_any_place(self):
        for wrong in ["", "n.", ".r", "n.rl", "N", "1", "n." + "r" * 100, "n\n", "abcdefghi"]:
            self.refused(wrong + " a b")
            self.refused("a " + wrong + " b")
            self.refused("a b " + wrong)

    def test_another_sign_at_any_place(self):
        text = "ab.rr c d.l"
        for code in list(range(32, 127)) + [10]:
            if not chr(code).islower():
                for at in range(len(text) + 1):
                    put = text[:at] + chr(code) + text[at:]
                    if not (chr(code) in " ." and self.is_written_so(put)):
                        self.refused(put)

    @staticmethod
    def is_written_so(text):
        """Looks at the text sign by sign, in another way than the program does."""
        for sign in text.split(" "):
            mark, dot, turn = sign.partition(".")
            if not (mark.isalpha() and (dot == "" or turn in ["r" * len(turn), "l" * len(turn)] and turn != "")):
                return False
        return True

    def test_a_blank_or_a_lines_end_at_either_end(self):
        for text in ["n", "1", "n.r s.l"]:
            for end in [" ", "\n"]:
                self.refused(text + end)
                self.refused(end + text)

    def test_two_blanks(self):
        self.refused("n  s")
        self.refused("n.r  s.l a")
        self.refused("n s  a")

    def test_things_that_are_no_text(self):
        for thing in odd_things() + NUMBERS + TUPLES + [(("a", 0),), b"n", [("n", 0)], ["n"]]:
            self.refused(thing)


if __name__ == "__main__":
    unittest.main()
