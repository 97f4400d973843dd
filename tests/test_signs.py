import unittest

from tests.things import NUMBERS, odd_things
from wordwishes.signs import cancel, is_row, leads, left_wish, may_grow, mirror, right_wish

ORDER = (("a", "b"), ("b", "c"))
TURNS = [-99, -98, -4, -3, -2, -1, 0, 1, 2, 3, 4, 97, 98]


def long_row(many):
    return tuple([("abcdefgh"[: 1 + at % 8], at % 190 - 95) for at in range(many)])


class IsRowTest(unittest.TestCase):
    def test_rows(self):
        for row in [(), (("a", 0),), (("a", -99), ("abcdefgh", 99)), (("a", 0), ("a", 0)), long_row(3000)]:
            self.assertIs(is_row(row), True)

    def test_turns(self):
        for turn in range(-99, 100):
            self.assertIs(is_row((("a", turn),)), True)
        for turn in [-100, 100, -101, 101, 10**30, -(10**30)]:
            with self.subTest(turn):
                self.assertIs(is_row((("a", turn),)), False)
                self.assertIs(is_row((("a", 0), ("a", turn))), False)

    def test_things_that_are_no_turns(self):
        for thing in odd_things() + ["", "0", "r", (), (0,)]:
            with self.subTest(repr(thing)):
                self.assertIs(is_row((("a", thing),)), False)

    def test_things_that_are_no_marks(self):
        for thing in odd_things() + NUMBERS + ["", "A", "abcdefghi", "a b", "a\n", (), ("a",)]:
            with self.subTest(repr(thing)):
                self.assertIs(is_row(((thing, 0),)), False)

    def test_lists(self):
        self.assertIs(is_row([]), False)
        self.assertIs(is_row([("a", 0)]), False)
        self.assertIs(is_row((["a", 0],)), False)
        self.assertIs(is_row((("a", 0), ["a", 0])), False)

    def test_signs_of_another_number_of_parts(self):
        for sign in [(), ("a",), (0,), ("a", 0, 0), ("a", 0, None), (0, "a")]:
            with self.subTest(sign):
                self.assertIs(is_row((sign,)), False)
                self.assertIs(is_row((("a", 0), sign)), False)
                self.assertIs(is_row((sign, ("a", 0))), False)

    def test_a_sign_is_no_row(self):
        self.assertIs(is_row(("a", 0)), False)

    def test_things_of_any_kind(self):
        for thing in odd_things() + NUMBERS + ["", "a", "a.r"]:
            with self.subTest(repr(thing)):
                self.assertIs(is_row(thing), False)
                self.assertIs(is_row((thing,)), False)
                self.assertIs(is_row((("a", 0), thing)), False)


class LeadsTest(unittest.TestCase):
    def test_at_even_turns_upwards_at_odd_ones_downwards(self):
        for turn in TURNS + [99]:
            up = turn % 2 == 0
            with self.subTest(turn):
                self.assertIs(leads(ORDER, ("a", turn), ("b", turn)), up)
                self.assertIs(leads(ORDER, ("a", turn), ("c", turn)), up)
                self.assertIs(leads(ORDER, ("b", turn), ("a", turn)), not up)
                self.assertIs(leads(ORDER, ("c", turn), ("a", turn)), not up)
                self.assertIs(leads(ORDER, ("a", turn), ("a", turn)), True)
                self.assertIs(leads((), ("a", turn), ("a", turn)), True)
                self.assertIs(leads((), ("a", turn), ("b", turn)), False)

    def test_only_to_the_same_turn(self):
        for turn in TURNS:
            for other in [turn + 1, turn + 2, turn - 1, -turn]:
                if other != turn:
                    self.assertIs(leads(ORDER, ("a", turn), ("a", other)), False)
                    self.assertIs(leads(ORDER, ("a", turn), ("b", other)), False)
                    self.assertIs(leads(ORDER, ("b", turn), ("a", other)), False)


class CancelTest(unittest.TestCase):
    def test_at_even_and_odd_turns_each_way_about(self):
        for turn in TURNS:
            up = turn % 2 == 0
            with self.subTest(turn):
                self.assertIs(cancel(ORDER, ("a", turn), ("b", turn + 1)), up)
                self.assertIs(cancel(ORDER, ("a", turn), ("c", turn + 1)), up)
                self.assertIs(cancel(ORDER, ("b", turn), ("a", turn + 1)), not up)
                self.assertIs(cancel(ORDER, ("c", turn), ("a", turn + 1)), not up)
                self.assertIs(cancel(ORDER, ("a", turn), ("a", turn + 1)), True)
                self.assertIs(cancel((), ("a", turn), ("a", turn + 1)), True)
                self.assertIs(cancel((), ("a", turn), ("b", turn + 1)), False)

    def test_only_with_one_turn_more(self):
        for turn in TURNS:
            for other in [turn, turn - 1, turn + 2, turn + 3]:
                for mark in "abc":
                    with self.subTest(turn=turn, other=other, mark=mark):
                        self.assertIs(cancel(ORDER, ("b", turn), (mark, other)), False)

    def test_one_and_minus_one_do_not_cancel(self):
        self.assertIs(cancel((), ("a", 1), ("a", -1)), False)
        self.assertIs(cancel((), ("a", -1), ("a", 1)), False)


class MayGrowTest(unittest.TestCase):
    def test_at_even_and_odd_turns_each_way_about(self):
        for turn in TURNS:
            up = turn % 2 == 0
            with self.subTest(turn):
                self.assertIs(may_grow(ORDER, ("a", turn + 1), ("b", turn)), up)
                self.assertIs(may_grow(ORDER, ("a", turn + 1), ("c", turn)), up)
                self.assertIs(may_grow(ORDER, ("b", turn + 1), ("a", turn)), not up)
                self.assertIs(may_grow(ORDER, ("c", turn + 1), ("a", turn)), not up)
                self.assertIs(may_grow(ORDER, ("a", turn + 1), ("a", turn)), True)
                self.assertIs(may_grow((), ("a", turn + 1), ("a", turn)), True)
                self.assertIs(may_grow((), ("a", turn + 1), ("b", turn)), False)

    def test_only_with_one_turn_less(self):
        for turn in TURNS:
            for other in [turn, turn + 1, turn - 2, turn - 3]:
                for mark in "abc":
                    with self.subTest(turn=turn, other=other, mark=mark):
                        self.assertIs(may_grow(ORDER, ("b", turn), (mark, other)), False)


class WishesTest(unittest.TestCase):
    ROW = (("a", 0), ("b", -1), ("c", 98), ("a", -98))

    def test_no_signs(self):
        for wish in [right_wish, left_wish, mirror]:
            self.assertEqual(wish(()), ())
            self.assertIsInstance(wish(()), tuple)

    def test_one_sign(self):
        self.assertEqual(right_wish((("a", 0),)), (("a", 1),))
        self.assertEqual(left_wish((("a", 0),)), (("a", -1),))
        self.assertEqual(mirror((("a", 0),)), (("a", 0),))
        self.assertEqual(mirror((("a", 99),)), (("a", -99),))
        self.assertEqual(mirror((("a", -99),)), (("a", 99),))
        self.assertEqual(right_wish((("a", 98),)), (("a", 99),))
        self.assertEqual(right_wish((("a", -99),)), (("a", -98),))
        self.assertEqual(left_wish((("a", -98),)), (("a", -99),))

    def test_several_signs(self):
        self.assertEqual(right_wish(self.ROW), (("a", -97), ("c", 99), ("b", 0), ("a", 1)))
        self.assertEqual(left_wish(self.ROW), (("a", -99), ("c", 97), ("b", -2), ("a", -1)))
        self.assertEqual(mirror(self.ROW), (("a", 98), ("c", -98), ("b", 1), ("a", 0)))

    def test_long_rows(self):
        row = long_row(5000)
        many = len(row)
        for wish, turned in [
            (right_wish, lambda turn: turn + 1),
            (left_wish, lambda turn: turn - 1),
            (mirror, lambda turn: -turn),
        ]:
            told = wish(row)
            self.assertIs(is_row(told), True)
            self.assertEqual(len(told), many)
            for at in range(many):
                self.assertEqual(told[at], (row[many - 1 - at][0], turned(row[many - 1 - at][1])))

    def test_one_undoes_the_other(self):
        for row in [(), (("a", 0),), self.ROW, long_row(2000)]:
            self.assertEqual(left_wish(right_wish(row)), row)
            self.assertEqual(right_wish(left_wish(row)), row)
            self.assertEqual(mirror(mirror(row)), row)
            self.assertEqual(mirror(right_wish(row)), left_wish(mirror(row)))

    def test_what_cancels_cancels_mirrored_too(self):
        for turn in TURNS:
            for one in "abc":
                for other in "abc":
                    pair = ((one, turn), (other, turn + 1))
                    self.assertIs(cancel(ORDER, *mirror(pair)), cancel(ORDER, *pair))


if __name__ == "__main__":
    unittest.main()
