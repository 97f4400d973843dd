import itertools
import unittest

from tests.things import NUMBERS, TUPLES, odd_things
from wordwishes.marks import at_most, hanging_with, is_mark, is_order

CHAIN = (("a", "b"), ("b", "c"), ("c", "d"))


class IsMarkTest(unittest.TestCase):
    def test_marks_of_one_to_eight_small_letters(self):
        for mark in ["a", "z", "n", "ab", "goal", "sevenxx", "abcdefgh", "zzzzzzzz"]:
            with self.subTest(mark):
                self.assertIs(is_mark(mark), True)

    def test_every_small_letter_is_a_mark(self):
        for letter in "abcdefghijklmnopqrstuvwxyz":
            self.assertIs(is_mark(letter), True)

    def test_no_other_sign_stands_in_a_mark(self):
        for code in list(range(128)) + [0xDF, 0xE9, 0x430, 0xFF41]:
            sign = chr(code)
            if not "a" <= sign <= "z":
                for text in [sign, "a" + sign, sign + "a", "a" + sign + "b"]:
                    with self.subTest(text):
                        self.assertIs(is_mark(text), False)

    def test_texts_that_are_no_marks(self):
        for text in ["", "abcdefghi", "a" * 1000, "A", "Ab", "aB", "a1", "1", "a b", " a", "a ", "a\n", "\n", "a.r"]:
            with self.subTest(text):
                self.assertIs(is_mark(text), False)

    def test_things_of_other_kinds(self):
        for thing in odd_things() + NUMBERS + TUPLES:
            with self.subTest(repr(thing)):
                self.assertIs(is_mark(thing), False)


class IsOrderTest(unittest.TestCase):
    def test_orders_of_none_to_eight_pairs(self):
        pairs = tuple([(low, high) for low in "abc" for high in "xyz"])
        for many in range(9):
            with self.subTest(many):
                self.assertIs(is_order(pairs[:many]), True)

    def test_alike_pairs_and_pairs_of_alike_marks(self):
        self.assertIs(is_order((("a", "b"), ("a", "b"))), True)
        self.assertIs(is_order((("a", "a"),)), True)
        self.assertIs(is_order((("a", "b"), ("b", "a"))), True)
        self.assertIs(is_order((("abcdefgh", "abcdefgh"),) * 8), True)

    def test_nine_pairs(self):
        self.assertIs(is_order((("a", "b"),) * 9), False)

    def test_lists(self):
        self.assertIs(is_order([]), False)
        self.assertIs(is_order([("a", "b")]), False)
        self.assertIs(is_order((["a", "b"],)), False)

    def test_pairs_of_another_number(self):
        for pair in [(), ("a",), ("a", "b", "c")]:
            self.assertIs(is_order((pair,)), False)
            self.assertIs(is_order((("a", "b"), pair)), False)

    def test_pairs_of_what_are_no_marks(self):
        for wrong in odd_things() + NUMBERS + TUPLES + ["", "A", "abcdefghi", "a\n"]:
            with self.subTest(repr(wrong)):
                self.assertIs(is_order(((wrong, "b"),)), False)
                self.assertIs(is_order((("a", wrong),)), False)
                self.assertIs(is_order((("a", "b"), (wrong, "b"))), False)

    def test_a_text_of_two_letters_is_no_pair(self):
        self.assertIs(is_order(("ab",)), False)
        self.assertIs(is_order("ab"), False)

    def test_things_of_any_kind(self):
        for thing in odd_things() + NUMBERS + TUPLES[1:] + ["", "a"]:
            with self.subTest(repr(thing)):
                self.assertIs(is_order(thing), False)


class AtMostTest(unittest.TestCase):
    def test_a_mark_is_at_most_itself_with_a_pair_or_without(self):
        for order in [(), CHAIN, (("a", "a"),), (("x", "y"),)]:
            self.assertIs(at_most(order, "a", "a"), True)

    def test_pairs_one_behind_the_other_told_in_any_order(self):
        for order in itertools.permutations(CHAIN):
            for low, high in itertools.product("abcd", repeat=2):
                with self.subTest(order=order, low=low, high=high):
                    self.assertIs(at_most(order, low, high), low <= high)

    def test_eight_pairs_one_behind_the_other(self):
        marks = "abcdefghi"
        order = tuple([(low, high) for low, high in zip(marks, marks[1:])])
        for told in [order, order[::-1]]:
            self.assertIs(at_most(told, "a", "i"), True)
            self.assertIs(at_most(told, "i", "a"), False)

    def test_round_rings(self):
        ring = (("a", "b"), ("b", "c"), ("c", "a"))
        for low, high in itertools.product("abc", repeat=2):
            self.assertIs(at_most(ring, low, high), True)
        self.assertIs(at_most(ring, "a", "d"), False)
        self.assertIs(at_most(ring + (("c", "d"),), "a", "d"), True)
        self.assertIs(at_most(ring + (("c", "d"),), "d", "a"), False)

    def test_not_against_the_pairs(self):
        self.assertIs(at_most((("a", "b"),), "b", "a"), False)
        self.assertIs(at_most((("a", "c"), ("b", "c")), "a", "b"), False)
        self.assertIs(at_most((("c", "a"), ("c", "b")), "a", "b"), False)

    def test_marks_without_a_pair(self):
        self.assertIs(at_most((), "a", "b"), False)
        self.assertIs(at_most(CHAIN, "a", "x"), False)
        self.assertIs(at_most(CHAIN, "x", "a"), False)

    def test_alike_pairs_change_nothing(self):
        order = (("a", "b"), ("a", "b"), ("b", "b"), ("b", "c"))
        self.assertIs(at_most(order, "a", "c"), True)
        self.assertIs(at_most(order, "c", "a"), False)

    def test_a_mark_is_not_at_most_one_that_begins_like_it(self):
        self.assertIs(at_most((), "a", "ab"), False)
        self.assertIs(at_most((("a", "b"),), "a", "bb"), False)

    def test_somewhat_more_pairs_than_an_order_has(self):
        marks = "abcdefghijklmnop"
        order = tuple([(low, high) for low, high in zip(marks, marks[1:])])
        self.assertIs(at_most(order, "a", "p"), True)
        self.assertIs(at_most(order, "p", "a"), False)


class HangingWithTest(unittest.TestCase):
    def test_by_pairs_gone_either_way(self):
        order = (("a", "b"), ("c", "b"), ("d", "c"), ("x", "y"))
        for mark in "abcd":
            self.assertEqual(sorted(hanging_with(order, mark)), ["a", "b", "c", "d"])
        self.assertEqual(sorted(hanging_with(order, "y")), ["x", "y"])
        self.assertEqual(hanging_with(order, "z"), ["z"])
        self.assertEqual(hanging_with((), "a"), ["a"])


if __name__ == "__main__":
    unittest.main()
