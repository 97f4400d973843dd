import itertools
import random
import unittest

from tests.things import NUMBERS, TEXTS, odd_things
from tests.trials import Papers, chance_row, drawings_by_trial
from wordwishes.arcs import drawing_of, is_drawing, ways, why_not
from wordwishes.signs import cancel, right_wish
from wordwishes.walks import gone

ORDER = (("a", "b"), ("c", "b"))


def plain(turns):
    return tuple([("a", turn) for turn in turns])


def chance_whole_row(chance, many):
    """A row that cancels wholly, put together from inside and side by side."""
    if many == 0:
        return ()
    within = 2 * chance.randrange(many // 2)
    low, high = chance.choice([("a", "a"), ("a", "b"), ("c", "b"), ("d", "d")])
    turn = chance.randrange(-2, 2)
    left, right = (low, high) if turn % 2 == 0 else (high, low)
    inner = chance_whole_row(chance, within)
    return ((left, turn),) + inner + ((right, turn + 1),) + chance_whole_row(chance, many - within - 2)


class IsDrawingTest(unittest.TestCase):
    ROW = (("a", 0), ("a", 0), ("b", 1), ("b", 1), ("c", -1), ("c", 0))
    ARCS = ((0, 3), (1, 2), (4, 5))

    def is_none(self, arcs, row=ROW, order=ORDER):
        with self.subTest(repr(arcs)):
            self.assertIs(is_drawing(order, row, arcs), False)

    def test_drawings(self):
        self.assertIs(is_drawing(ORDER, self.ROW, self.ARCS), True)
        self.assertIs(is_drawing(ORDER, (), ()), True)
        self.assertIs(is_drawing((), plain([0, 1]), ((0, 1),)), True)

    def test_all_small_tuples_of_arcs(self):
        for turns in [(0, 0, 1, 1), (0, 1, 0, 1), (0, 1, 2, 1), (1, 0, 1, 0), (0, 1, 1, 2)]:
            row = plain(turns)
            right = drawings_by_trial((), row)
            arcs = [(i, j) for i in range(-1, 5) for j in range(-1, 5)]
            for many in range(3):
                for tried in itertools.product(arcs, repeat=many):
                    self.assertIs(is_drawing((), row, tried), tried in right)

    def test_arcs_left_out(self):
        self.is_none(())
        for at in range(3):
            self.is_none(self.ARCS[:at] + self.ARCS[at + 1 :])
        self.is_none((), plain([0]))
        self.is_none(((0, 1),), plain([0, 1, 2]))

    def test_arcs_twice(self):
        self.is_none(self.ARCS + ((4, 5),))
        self.is_none(((0, 3), (1, 2), (1, 2), (4, 5)))
        self.is_none(((0, 3), (0, 3), (4, 5)))
        self.is_none(((0, 1), (1, 2)), plain([0, 1, 2]))
        self.is_none(((0, 1), (1, 2), (2, 3)), plain([0, 1, 2, 3]))
        self.is_none(((0, 2), (1, 2), (4, 5)))

    def test_arcs_turned_about(self):
        self.is_none(((3, 0), (1, 2), (4, 5)))
        self.is_none(((0, 3), (2, 1), (4, 5)))
        self.is_none(((1, 0),), plain([0, 1]))
        self.is_none(((1, 0),), plain([1, 0]))
        self.is_none(((0, 0), (1, 1)), plain([0, 1]))

    def test_arcs_that_cross(self):
        self.is_none(((0, 2), (1, 3), (4, 5)))
        self.is_none(((0, 2), (1, 3)), plain([0, 0, 1, 1]), ())

    def test_another_order(self):
        for arcs in itertools.permutations(self.ARCS):
            if arcs != self.ARCS:
                self.is_none(arcs)

    def test_arcs_beyond(self):
        self.is_none(((0, 3), (1, 2), (4, 6)))
        self.is_none(((-1, 0),), plain([0, 1]))
        self.is_none(((-2, -1),), plain([0, 1]))
        self.is_none(((0, -1),), plain([0, 1]))
        self.is_none(((0, 1), (2, 3)), plain([0, 1]))
        self.is_none(((0, 10**30),), plain([0, 1]))
        self.is_none(((0, 1),), ())

    def test_signs_that_do_not_cancel(self):
        self.is_none(((0, 5), (1, 2), (3, 4)))
        self.is_none(((0, 1), (2, 3), (4, 5)))
        self.is_none(self.ARCS, self.ROW, ())
        self.is_none(((0, 1),), (("b", 0), ("a", 1)))
        self.is_none(((0, 1),), (("a", 1), ("b", 2)))

    def test_truths(self):
        self.is_none(((0, True),), plain([0, 1]))
        self.is_none(((False, 1),), plain([0, 1]))
        self.is_none(((False, True),), plain([0, 1]))

    def test_lists(self):
        self.is_none(list(self.ARCS))
        self.is_none(([0, 3], (1, 2), (4, 5)))
        self.is_none([[0, 3], [1, 2], [4, 5]])
        self.is_none([], ())

    def test_things_of_any_kind(self):
        for thing in odd_things() + NUMBERS + TEXTS + [("a",), ("a", 0), (0, 2), (None,), ([],)]:
            self.is_none(thing)
            self.is_none(thing, ())
            self.is_none((thing,), plain([0, 1]))
            self.is_none((thing,), ())
            self.is_none(((0, 1), thing), plain([0, 1, 0, 1]))
        for thing in odd_things() + TEXTS + [(), (0,), (0, 1)]:
            self.is_none(((thing, 1),), plain([0, 1]))
            self.is_none(((0, thing),), plain([0, 1]))
        for arc in [(), (0,), (0, 1, 1), (0, 1, None), ((0, 1),), "01"]:
            self.is_none((arc,), plain([0, 1]))


class DrawingOfTest(unittest.TestCase):
    def looked_at(self, order, row):
        right = drawings_by_trial(order, row)
        told = drawing_of(order, row)
        self.assertEqual(ways(order, row), len(right), row)
        if right:
            self.assertIn(told, right)
            self.assertIs(is_drawing(order, row, told), True)
        else:
            self.assertIsNone(told)
        for arcs in right:
            self.assertIs(is_drawing(order, row, arcs), True)

    def test_the_row_of_no_signs(self):
        self.assertEqual(drawing_of((), ()), ())
        self.assertEqual(ways((), ()), 1)

    def test_rows_with_no_drawing_with_one_with_several(self):
        self.assertIsNone(drawing_of((), plain([0])))
        self.assertIsNone(drawing_of((), plain([1, 0])))
        self.assertEqual(drawing_of((), plain([0, 1])), ((0, 1),))
        self.assertEqual(drawing_of((), plain([0, 0, 1, 1])), ((0, 3), (1, 2)))
        self.assertEqual(ways((), plain([0, 0, 1, 1])), 1)
        self.assertEqual(ways((), plain([0, 1, 0, 1, 2, 1])), 2)
        self.assertEqual(ways((), plain([0, 1, 0, 1, 0, 1, 2, 1])), 3)
        self.assertEqual(ways((), plain([1, 0])), 0)
        self.assertEqual(ways((), plain([0, 1, 2])), 0)

    def test_all_small_plain_rows_by_trial(self):
        for many in range(7):
            for turns in itertools.product([-1, 0, 1, 2], repeat=many):
                self.looked_at((), plain(turns))

    def test_all_small_rows_of_several_marks_by_trial(self):
        signs = [(mark, turn) for mark in "abc" for turn in [0, 1, 2]]
        for many in range(5):
            for row in itertools.product(signs, repeat=many):
                self.looked_at(ORDER, row)

    def test_rows_by_chance_by_trial(self):
        chance = random.Random(9)
        for time in range(150):
            self.looked_at(ORDER, chance_row(chance, 10))
            self.looked_at(ORDER, chance_whole_row(chance, 2 * chance.randrange(6)))

    def test_rows_of_24_signs(self):
        chance = random.Random(24)
        for time in range(100):
            row = chance_whole_row(chance, 24)
            told = drawing_of(ORDER, row)
            self.assertIs(is_drawing(ORDER, row, told), True)
            self.assertGreaterEqual(ways(ORDER, row), 1)
            self.assertIsNone(why_not(ORDER, row))

    def test_very_many_drawings(self):
        # 0 1 0 1 .. 2 1: the sign with turn 2 may take any sign with turn 1 ahead of it.
        for many in range(1, 11):
            self.assertEqual(ways((), plain([0, 1] * many + [0, 1, 2, 1])), many + 1)
        row = plain([0, 1, 0, 1, 2, 1] * 4)
        self.assertEqual(ways((), row), self.counted_by_the_last_sign(row))
        self.assertGreater(ways((), row), 100)
        row = plain([0, 1, 0, 1, 2, 1] * 10)
        self.assertEqual(ways((), row), self.counted_by_the_last_sign(row))
        self.assertGreater(ways((), row), 10**6)

    @staticmethod
    def counted_by_the_last_sign(row):
        """Counts from the other end than the program does."""
        known = {}

        def count(begin, end):
            if begin == end:
                return 1
            if (begin, end) not in known:
                known[begin, end] = sum(
                    count(begin, at) * count(at + 1, end - 1)
                    for at in range(begin, end - 1)
                    if cancel((), row[at], row[end - 1])
                )
            return known[begin, end]

        return count(0, len(row))

    def test_a_row_with_its_wish_behind_it(self):
        for many in range(13):
            row = tuple([("abcd"[at % 4], at % 5 - 2) for at in range(many)])
            whole = row + right_wish(row)
            told = drawing_of((), whole)
            self.assertIs(is_drawing((), whole, told), True)

    def test_the_row_comes_to_no_signs_by_cancels_alone(self):
        chance = random.Random(3)
        for time in range(50):
            row = chance_whole_row(chance, 16)
            signs = list(range(16))
            walk = []
            # The inner arcs go out first.
            for i, j in sorted(drawing_of(ORDER, row), key=lambda arc: arc[1] - arc[0]):
                walk.append(("cancel", signs.index(i)))
                self.assertEqual(signs.index(j), signs.index(i) + 1)
                signs.remove(i)
                signs.remove(j)
            self.assertEqual(gone(ORDER, row, tuple(walk)), ())

    def test_somewhat_longer_rows(self):
        row = plain([0] * 30 + [1] * 30)
        self.assertEqual(drawing_of((), row), tuple([(at, 59 - at) for at in range(30)]))
        self.assertEqual(ways((), row), 1)
        self.assertIsNone(drawing_of((), row[1:]))


class WhyNotTest(Papers, unittest.TestCase):
    def looked_at(self, order, row):
        """Tells which form the paper has, or None."""
        paper = why_not(order, row)
        if drawing_of(order, row) is not None:
            self.assertIsNone(paper)
            return None
        self.row_paper_shows(order, row, paper)
        return paper[0]

    def test_none_where_the_row_cancels_wholly(self):
        for row in [(), plain([0, 1]), plain([0, 0, 1, 1]), plain([-1, 0, 0, 1]), plain([0, 1, 0, 1, 2, 1])]:
            self.assertIsNone(why_not((), row))
        self.assertIsNone(why_not(ORDER, (("a", 0), ("b", 1))))
        self.assertIsNone(why_not(ORDER, (("b", 1), ("a", 2))))

    def test_counted_where_turns_are_not_as_many(self):
        self.assertEqual(why_not((), plain([0])), ("counted", "a"))
        self.assertEqual(why_not((), plain([0, 1, 2])), ("counted", "a"))
        self.assertEqual(why_not((), plain([1, 1])), ("counted", "a"))
        self.assertEqual(self.looked_at((), (("a", 0), ("b", 1))), "counted")

    def test_closed_where_they_are(self):
        self.assertEqual(why_not((), plain([1, 0])), ("closed", ((0, 0), (1, 1), (2, 2))))
        self.assertEqual(self.looked_at((), plain([0, 1, 1, 0])), "closed")
        self.assertEqual(self.looked_at(ORDER, (("b", 0), ("a", 1))), "closed")
        # a and c hang together by b alone, and neither is at most the other.
        self.assertEqual(self.looked_at(ORDER, (("a", 0), ("c", 1))), "closed")
        self.assertEqual(self.looked_at(ORDER[:1], (("a", 0), ("c", 1))), "counted")

    def test_all_small_rows(self):
        forms = []
        for many in range(7):
            for turns in itertools.product([-1, 0, 1, 2], repeat=many):
                forms.append(self.looked_at((), plain(turns)))
        self.assertEqual(set(forms), {None, "closed", "counted"})

    def test_all_small_rows_of_several_marks(self):
        signs = [(mark, turn) for mark in "abc" for turn in [0, 1, 2]]
        for many in range(5):
            for row in itertools.product(signs, repeat=many):
                self.looked_at(ORDER, row)

    def test_rows_up_to_24_signs(self):
        chance = random.Random(10)
        for time in range(100):
            self.looked_at(ORDER, chance_row(chance, 24))
            whole = chance_whole_row(chance, 24)
            self.looked_at(ORDER, whole)
            at = chance.randrange(23)
            self.looked_at(ORDER, whole[:at] + (whole[at + 1], whole[at]) + whole[at + 2 :])
            self.looked_at(ORDER, whole[1:] + whole[:1])

    def test_a_row_of_24_signs_of_which_all_but_two_cancel(self):
        row = plain([1]) + plain([0, 1] * 11) + plain([0])
        self.assertEqual(self.looked_at((), row), "closed")


if __name__ == "__main__":
    unittest.main()
