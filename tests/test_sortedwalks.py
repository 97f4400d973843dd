import random
import unittest

from tests import test_walks
from tests.test_comings import chance_walk
from tests.trials import chance_row, is_sorted_walk, step_names
from wordwishes.errors import NoStep
from wordwishes.sortedwalks import sorted_walk
from wordwishes.walks import gone

ORDER = (("a", "b"), ("b", "c"))


class SortedWalkTest(unittest.TestCase):
    def told(self, order, row, walk):
        anew = sorted_walk(order, row, walk)
        self.assertIsInstance(anew, tuple)
        self.assertTrue(is_sorted_walk(anew), anew)
        self.assertEqual(gone(order, row, anew), gone(order, row, walk))
        return anew

    def test_no_steps(self):
        self.assertEqual(self.told(ORDER, (), ()), ())
        row = (("a", 0), ("b", 1))
        self.assertEqual(gone(ORDER, row, self.told(ORDER, row, ())), row)

    def test_a_walk_that_is_sorted_already(self):
        row = (("a", 0), ("x", 0), ("x", 1))
        self.told(ORDER, row, (("cancel", 1), ("order", 0, "b"), ("grow", 1, ("x", 1), ("x", 0))))

    def test_growths_that_are_cancelled_later(self):
        row = (("a", 0),)
        # The sign goes out with a grown one, and the other grown one stays for it.
        walk = (("grow", 1, ("b", 1), ("c", 0)), ("cancel", 0))
        self.assertEqual(gone(ORDER, row, walk), (("c", 0),))
        self.assertNotIn("grow", step_names(self.told(ORDER, row, walk)))
        walk = (("grow", 0, ("a", 0), ("a", -1)), ("cancel", 1))
        self.assertNotIn("grow", step_names(self.told((), row, walk)))
        # Two growths that go out again, each with the other's sign.
        walk = (
            ("grow", 1, ("a", 1), ("a", 0)),
            ("grow", 3, ("a", 1), ("a", 0)),
            ("cancel", 2),
            ("cancel", 0),
        )
        self.assertEqual(gone((), row, walk), row)
        self.assertEqual(self.told((), row, walk), ())

    def test_a_growth_ahead_of_a_cancel_elsewhere(self):
        row = (("x", 0), ("a", 0), ("a", 1), ("y", 0))
        walk = (("grow", 0, ("b", 1), ("b", 0)), ("cancel", 3), ("order", 0, "a"), ("grow", 4, ("b", 1), ("b", 0)))
        anew = self.told(ORDER, row, walk)
        self.assertEqual(step_names(anew)[0], "cancel")
        self.assertEqual(step_names(anew)[-1], "grow")

    def test_orders_of_signs_that_go_out_later(self):
        row = (("a", 0), ("c", 1))
        self.told(ORDER, row, (("order", 0, "b"), ("order", 1, "b"), ("cancel", 0)))
        self.told(ORDER, row, (("order", 0, "b"), ("order", 0, "c"), ("cancel", 0)))
        row = (("a", 0), ("a", 0), ("c", 1), ("x", 0))
        self.told(ORDER, row, (("order", 1, "c"), ("cancel", 1), ("order", 0, "b")))

    def test_orders_of_signs_that_have_grown(self):
        walk = (("grow", 0, ("b", 1), ("b", 0)), ("order", 0, "a"), ("order", 1, "c"))
        self.assertEqual(step_names(self.told(ORDER, (), walk)), ["grow"])

    def test_a_mark_that_becomes_itself(self):
        row = (("a", 0), ("x", 3))
        self.told(ORDER, row, (("order", 0, "a"), ("order", 1, "x"), ("order", 0, "a")))
        self.told((), row, (("order", 0, "a"), ("grow", 2, ("a", 1), ("a", 0)), ("order", 2, "a"), ("order", 3, "a")))

    def test_an_order_that_leads_round(self):
        order = (("a", "b"), ("b", "a"))
        self.told(order, (("a", 0),), (("order", 0, "b"), ("order", 0, "a"), ("order", 0, "b")))
        walk = (("order", 0, "b"), ("grow", 1, ("a", 1), ("b", 0)), ("cancel", 0), ("order", 0, "a"))
        self.told(order, (("a", 0),), walk)

    def test_far_turns(self):
        self.told((), (("a", 99),), (("grow", 0, ("a", 99), ("a", 98)), ("cancel", 1)))
        self.told((), (("a", -99),), (("grow", 1, ("a", -98), ("a", -99)), ("cancel", 0)))
        self.told((), (), (("grow", 0, ("a", 99), ("a", 98)), ("grow", 2, ("a", -98), ("a", -99))))

    def test_more_than_a_thousand_steps(self):
        row = (("a", 0),)
        self.told((), row, (("grow", 1, ("a", 1), ("a", 0)), ("cancel", 0)) * 1500)
        self.told((), row, (("order", 0, "a"),) * 3000)
        # On the way the row is far longer than what is asked.
        walk = (("grow", 1, ("a", 1), ("a", 0)),) * 1100 + (("cancel", 0),) * 1100
        self.assertEqual(gone((), row, walk), row)
        self.told((), row, walk)

    def test_by_chance(self):
        chance = random.Random(15)
        told = unsorted = 0
        for time in range(400):
            row = chance_row(chance, 8, "abc")
            walk, other = chance_walk(chance, ORDER, row, chance.randrange(30))
            if len(row) + len(other) <= 24:
                self.told(ORDER, row, walk)
                told += 1
                unsorted += not is_sorted_walk(walk)
        self.assertGreater(told, 100)
        self.assertGreater(unsorted, 100)

    def test_long_walks_by_chance(self):
        chance = random.Random(16)
        for time in range(4):
            row = chance_row(chance, 4, "ab")
            walk, other = chance_walk(chance, ORDER, row, 1200, "ab", 12)
            self.assertLessEqual(len(other), 12)
            self.told(ORDER, row, walk)


class SortedNoStepTest(test_walks.NoStepTest):
    """Each wrong step that gone refuses, at the begin, in the midst and at the end."""

    asked = staticmethod(sorted_walk)

    def test_in_walks_of_more_than_a_thousand_steps(self):
        row = (("a", 0),)
        there_and_back = (("grow", 1, ("a", 1), ("a", 0)), ("cancel", 0))
        for wrong in [("cancel", 0), ("order", 1, "a"), ("order", 0, "b"), ("grow", 2, ("a", 1), ("a", 0)), None, ()]:
            for ahead, behind in [(0, 700), (350, 350), (700, 0)]:
                with self.assertRaises(NoStep) as caught:
                    sorted_walk((), row, there_and_back * ahead + (wrong,) + there_and_back * behind)
                self.assertEqual(caught.exception.number, 2 * ahead)


if __name__ == "__main__":
    unittest.main()
