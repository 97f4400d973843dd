import itertools
import random
import unittest

from tests.trials import Papers, chance_row, is_sorted_walk, step_names
from wordwishes.comings import comes
from wordwishes.signs import cancel, leads, may_grow, right_wish
from wordwishes.walks import gone

ORDER = (("a", "b"), ("b", "c"))


def plain(*turns):
    return tuple([("a", turn) for turn in turns])


def next_rows(order, row, signs, longest):
    """All rows to which one step leads, of these signs, up to a length."""
    told = []
    for at in range(len(row) - 1):
        if cancel(order, row[at], row[at + 1]):
            told.append(row[:at] + row[at + 2 :])
    for at, sign in enumerate(row):
        told.extend([row[:at] + (other,) + row[at + 1 :] for other in signs if leads(order, sign, other)])
    if len(row) + 2 <= longest:
        pairs = [(one, other) for one in signs for other in signs if may_grow(order, one, other)]
        told.extend([row[:at] + pair + row[at:] for at in range(len(row) + 1) for pair in pairs])
    return told


def reached_by_search(order, row, signs, longest, known):
    """All rows to which the row comes on ways with rows up to a length; known keeps what one step leads to."""
    reached = {row}
    left = [row]
    while left:
        one = left.pop()
        if one not in known:
            known[one] = next_rows(order, one, signs, longest)
        for other in known[one]:
            if other not in reached:
                reached.add(other)
                left.append(other)
    return reached


def chance_steps(chance, order, row, marks, longest):
    """Steps that can be gone, cancels more than once, so that rows stay short; no growths beyond a length."""
    steps = [("cancel", at) for at in range(len(row) - 1) if cancel(order, row[at], row[at + 1])] * 4
    for at, (mark, turn) in enumerate(row):
        steps.extend([("order", at, other) for other in marks if leads(order, (mark, turn), (other, turn))])
    at, turn = chance.randrange(len(row) + 1), chance.randrange(-2, 2)
    pairs = [(one, other) for one in marks for other in marks if may_grow(order, (one, turn + 1), (other, turn))]
    one, other = chance.choice(pairs)
    if len(row) + 2 <= longest:
        steps.extend([("grow", at, (one, turn + 1), (other, turn))] * 3)
    return steps


def chance_walk(chance, order, row, many, marks="abc", longest=100):
    """A walk of so many steps, and the row to which it leads."""
    walk = []
    for time in range(many):
        walk.append(chance.choice(chance_steps(chance, order, row, marks, longest)))
        row = gone(order, row, (walk[-1],))
    return tuple(walk), row


class ComesTest(Papers, unittest.TestCase):
    def does(self, order, one, other):
        told = comes(order, one, other)
        self.assertIsInstance(told, tuple)
        name, walk = told
        self.assertEqual(name, "comes", (one, other))
        self.assertIsInstance(walk, tuple)
        self.assertEqual(gone(order, one, walk), other)
        self.assertTrue(is_sorted_walk(walk))
        return walk

    def does_not(self, order, one, other):
        told = comes(order, one, other)
        self.assertIsInstance(told, tuple)
        name, paper = told
        self.assertEqual(name, "none", (one, other))
        self.row_paper_shows(order, one + right_wish(other), paper)
        return paper[0]

    def test_rows_of_no_signs(self):
        self.assertEqual(comes((), (), ()), ("comes", ()))
        self.assertEqual(comes((), plain(0, 1), ()), ("comes", (("cancel", 0),)))
        self.assertEqual(comes((), (), plain(1, 0)), ("comes", (("grow", 0, ("a", 1), ("a", 0)),)))
        self.does_not((), (), plain(0, 1))
        self.does_not((), plain(1, 0), ())
        self.does_not((), (), plain(0))
        self.does_not((), plain(0), ())

    def test_a_row_comes_to_itself(self):
        for row in [plain(0), plain(0, 1), plain(1, 0), plain(5, -3, 5), (("a", 0), ("c", 1), ("b", 2))]:
            self.does((), row, row)
            self.does(ORDER, row, row)

    def test_by_orders(self):
        self.assertEqual(comes(ORDER, (("a", 0),), (("c", 0),)), ("comes", (("order", 0, "c"),)))
        self.assertEqual(comes(ORDER, (("c", 1),), (("a", 1),)), ("comes", (("order", 0, "a"),)))
        self.does(ORDER, (("a", 0), ("c", -1), ("b", 2)), (("b", 0), ("a", -1), ("c", 2)))
        self.does_not(ORDER, (("c", 0),), (("a", 0),))
        self.does_not(ORDER, (("a", 1),), (("c", 1),))
        self.does_not(ORDER, (("a", 0),), (("c", 2),))

    def test_by_an_order_that_leads_round(self):
        round_about = (("a", "b"), ("b", "a"))
        self.does(round_about, (("a", 0), ("b", 1)), (("b", 0), ("a", 1)))
        self.does(round_about, (), (("b", 1), ("a", 0)))

    def test_all_three_in_their_order(self):
        one = (("a", 0), ("x", 0), ("x", 1), ("a", 0), ("b", 1))
        other = (("y", 3), ("y", 2), ("c", 0), ("y", 1), ("z", 1), ("z", 0), ("y", 0))
        walk = self.does(ORDER, one, other)
        self.assertEqual(sorted(set(step_names(walk))), ["cancel", "grow", "order"])

    def test_far_turns(self):
        self.does((), plain(98, 99), ())
        self.does((), (), plain(98, 97))
        self.does((), plain(-99, -98), plain(-97, -98))
        self.does_not((), plain(-98, -99), ())

    def test_cancels_within_one_another_and_growths_likewise(self):
        self.does((), plain(0, 0, 0, 1, 1, 1), ())
        self.does((), (), plain(1, 1, 1, 0, 0, 0))
        self.does((), plain(0, 0, 1, 1, 0, 1), plain(1, 0, 1, 1, 0, 0))
        self.does((), plain(-1, 0, 1), plain(1, 0, -1))

    def test_wishes_of_a_wish(self):
        # What is wished to the right of a row cancels with it; to the left likewise; they grow the other way about.
        for row in [plain(0), plain(0, 3, 1), (("a", 0), ("b", -1), ("c", 1))]:
            wish = right_wish(row)
            self.does(ORDER, row + wish, ())
            self.does(ORDER, (), wish + row)
            if row != ():
                self.does_not(ORDER, wish + row, ())

    def test_papers_of_either_form(self):
        self.assertEqual(self.does_not((), plain(0), plain(1)), "counted")
        self.assertEqual(self.does_not((), plain(1, 0), ()), "closed")
        self.assertEqual(self.does_not((), plain(1, 0), plain(0, 1)), "closed")
        self.assertEqual(self.does_not(ORDER, (("c", 0),), (("a", 0),)), "closed")
        self.assertEqual(self.does_not((), (("c", 0),), (("a", 0),)), "counted")

    def against_a_search(self, order, signs, longest, widest):
        rows = [row for many in range(longest + 1) for row in itertools.product(signs, repeat=many)]
        known = {}
        found = {True: 0, False: 0}
        for one in rows:
            reached = reached_by_search(order, one, signs, widest, known)
            for other in rows:
                if other in reached:
                    self.does(order, one, other)
                else:
                    self.does_not(order, one, other)
                found[other in reached] += 1
        self.assertGreater(min(found.values()), 50)

    def test_small_rows_of_one_mark_against_a_search(self):
        self.against_a_search((), plain(-1, 0, 1, 2), 3, 5)

    def test_small_rows_of_two_marks_against_a_search(self):
        signs = (("a", 0), ("b", 0), ("a", 1), ("b", 1))
        self.against_a_search(ORDER, signs, 3, 5)

    def test_rows_at_the_ends_of_walks(self):
        chance = random.Random(14)
        told = 0
        for time in range(300):
            one = chance_row(chance, 8, "abc")
            walk, other = chance_walk(chance, ORDER, one, chance.randrange(20))
            if len(one) + len(other) <= 24:
                self.does(ORDER, one, other)
                told += 1
        self.assertGreater(told, 100)

    def test_rows_of_24_signs_together(self):
        chance = random.Random(24)
        for time in range(40):
            one = tuple([(chance.choice("abc"), chance.choice([-1, 0, 1])) for at in range(12)])
            other = tuple([(chance.choice("abc"), chance.choice([-1, 0, 1])) for at in range(12)])
            name = comes(ORDER, one, other)[0]
            self.assertIn(name, ["comes", "none"])
            (self.does if name == "comes" else self.does_not)(ORDER, one, other)
            self.does(ORDER, one, one)
        self.does((), plain(*[0] * 12 + [1] * 12), ())
        self.does((), (), plain(*[1] * 12 + [0] * 12))
        self.does_not((), plain(*[1] * 12 + [0] * 12), ())

    def test_whoever_comes_to_one_that_comes_to_another_comes_there(self):
        chance = random.Random(7)
        for time in range(200):
            one = chance_row(chance, 5, "abc")
            other = chance_walk(chance, ORDER, one, 6)[1]
            third = chance_walk(chance, ORDER, other, 6)[1]
            self.does(ORDER, one, other)
            self.does(ORDER, other, third)
            self.does(ORDER, one, third)


if __name__ == "__main__":
    unittest.main()
