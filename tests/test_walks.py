import random
import unittest

from tests.things import NUMBERS, TEXTS, TUPLES, odd_things
from wordwishes.errors import NoStep
from wordwishes.signs import cancel, is_row
from wordwishes.walks import cancels_in, gone

ORDER = (("a", "b"), ("b", "c"))
ROW = (("a", 0), ("b", 1), ("x", 5), ("b", -1), ("b", 0))


def there_and_back(row):
    """A walk that leads from the row to itself, of three steps where it has a sign."""
    if len(row) == 0:
        return ()
    mark, turn = row[0]
    return (("order", 0, mark), ("grow", 1, (mark, turn + 1), (mark, turn)), ("cancel", 0))


class GoneTest(unittest.TestCase):
    def test_the_walk_of_no_steps(self):
        self.assertEqual(gone(ORDER, ROW, ()), ROW)
        self.assertEqual(gone((), (), ()), ())
        self.assertIsInstance(gone((), (), ()), tuple)

    def test_cancel_at_the_first_and_the_last_place(self):
        self.assertEqual(gone(ORDER, ROW, (("cancel", 0),)), ROW[2:])
        self.assertEqual(gone(ORDER, ROW, (("cancel", 3),)), ROW[:3])
        self.assertEqual(gone(ORDER, ROW, (("cancel", 0), ("cancel", 1))), (("x", 5),))
        self.assertEqual(gone((), (("a", 0), ("a", 1)), (("cancel", 0),)), ())

    def test_cancel_makes_new_neighbours(self):
        row = (("a", 0), ("x", 0), ("x", 1), ("c", 1))
        self.assertEqual(gone(ORDER, row, (("cancel", 1), ("cancel", 0))), ())

    def test_order_at_the_first_and_the_last_place(self):
        self.assertEqual(gone(ORDER, ROW, (("order", 0, "c"),)), (("c", 0),) + ROW[1:])
        self.assertEqual(gone(ORDER, ROW, (("order", 4, "c"),)), ROW[:4] + (("c", 0),))
        self.assertEqual(gone(ORDER, ROW, (("order", 3, "a"),)), ROW[:3] + (("a", -1), ("b", 0)))
        self.assertEqual(gone(ORDER, ROW, (("order", 1, "a"),)), (ROW[0], ("a", 1)) + ROW[2:])

    def test_a_mark_becomes_itself(self):
        for at in range(len(ROW)):
            self.assertEqual(gone(ORDER, ROW, (("order", at, ROW[at][0]),)), ROW)
            self.assertEqual(gone((), ROW, (("order", at, ROW[at][0]),)), ROW)

    def test_grow_from_0_to_the_rows_length(self):
        one, other = ("a", 3), ("c", 2)
        for at in range(len(ROW) + 1):
            self.assertEqual(gone(ORDER, ROW, (("grow", at, one, other),)), ROW[:at] + (one, other) + ROW[at:])
        self.assertEqual(gone(ORDER, (), (("grow", 0, one, other),)), (one, other))

    def test_grow_at_turns_of_either_kind(self):
        for one, other in [
            (("a", 1), ("b", 0)),
            (("b", 0), ("a", -1)),
            (("b", 2), ("a", 1)),
            (("a", 99), ("a", 98)),
            (("a", -98), ("a", -99)),
            (("abcdefgh", 1), ("abcdefgh", 0)),
        ]:
            self.assertEqual(gone(ORDER, (), (("grow", 0, one, other),)), (one, other))

    def test_the_three_steps_one_behind_the_other(self):
        walk = (("grow", 1, ("b", 1), ("b", 0)), ("cancel", 0), ("order", 0, "c"))
        self.assertEqual(gone(ORDER, (("a", 0),), walk), (("c", 0),))

    def test_walks_of_many_steps(self):
        up = tuple([("grow", at, ("a", 1), ("a", 0)) for at in range(3000)])
        told = gone((), (("a", 0),), up)
        self.assertEqual(told, (("a", 1),) * 3000 + (("a", 0),) * 3001)
        row = (("a", 0),) * 2000 + (("a", 1),) * 2000
        down = tuple([("cancel", 1999 - at) for at in range(2000)])
        self.assertEqual(gone((), row, down), ())
        self.assertEqual(gone((), ROW, (("order", 2, "x"),) * 5000), ROW)

    def test_every_told_row_is_a_row(self):
        chance = random.Random(5)
        row = (("a", 0),)
        for turn in range(300):
            places = cancels_in(ORDER, row)
            if places and chance.random() < 0.6:
                step = ("cancel", chance.choice(places))
            else:
                low, high = sorted([chance.choice("abc"), chance.choice("abc")])
                up = chance.randrange(-3, 3)
                one, other = (low, high) if up % 2 == 0 else (high, low)
                step = ("grow", chance.randrange(len(row) + 1), (one, up + 1), (other, up))
            row = gone(ORDER, row, (step,))
            self.assertIs(is_row(row), True)


class NoStepTest(unittest.TestCase):
    asked = staticmethod(gone)

    def refused(self, step, row=ROW, order=ORDER):
        """The step is refused with its number, behind steps that can be gone and ahead of wrong ones."""
        for times in [0, 1, 4]:
            ahead = there_and_back(row) * times
            for behind in [(), (None,), (("order", 0, "a"),)]:
                with self.subTest(step=repr(step), ahead=len(ahead)):
                    with self.assertRaises(NoStep) as caught:
                        self.asked(order, row, ahead + (step,) + behind)
                    self.assertEqual(caught.exception.number, len(ahead))

    def test_cancel_at_places_that_are_not_there(self):
        for place in [-1, -2, -5, 4, 5, 6, 10**30, -(10**30)]:
            self.refused(("cancel", place))
        self.refused(("cancel", 0), ())
        self.refused(("cancel", -1), ())
        self.refused(("cancel", -2), (("a", 0), ("a", 1)))
        self.refused(("cancel", 0), (("a", 0),))

    def test_cancel_of_signs_that_do_not_cancel(self):
        self.refused(("cancel", 1))
        self.refused(("cancel", 2))
        self.refused(("cancel", 0), ROW, ())
        self.refused(("cancel", 0), (("b", 0), ("a", 1)))
        self.refused(("cancel", 0), (("a", 1), ("b", 2)))
        self.refused(("cancel", 0), (("a", 1), ("a", 0)))
        self.refused(("cancel", 0), (("a", 0), ("a", 0)))

    def test_order_at_places_that_are_not_there(self):
        for place in [-1, -5, 5, 6, 10**30]:
            self.refused(("order", place, "b"))
        self.refused(("order", 0, "a"), ())

    def test_order_to_marks_to_which_the_sign_does_not_lead(self):
        self.refused(("order", 0, "x"))
        self.refused(("order", 1, "c"))
        self.refused(("order", 3, "c"))
        self.refused(("order", 4, "a"))
        self.refused(("order", 0, "b"), ROW, ())
        self.refused(("order", 2, "a"))

    def test_order_to_what_is_no_mark(self):
        for thing in odd_things() + NUMBERS + TUPLES + ["", "A", "abcdefghi", "a\n", ("a", 0)]:
            self.refused(("order", 0, thing))

    def test_grow_at_places_that_are_not_there(self):
        for place in [-1, -6, 6, 7, 10**30]:
            self.refused(("grow", place, ("a", 1), ("a", 0)))
        self.refused(("grow", 1, ("a", 1), ("a", 0)), ())
        self.refused(("grow", -1, ("a", 1), ("a", 0)), ())

    def test_grow_of_signs_that_may_not(self):
        for one, other in [
            (("a", 0), ("a", 1)),
            (("a", 0), ("a", 0)),
            (("a", 2), ("a", 0)),
            (("a", 1), ("x", 0)),
            (("b", 1), ("a", 0)),
            (("a", 2), ("b", 1)),
            (("a", 0), ("b", -1)),
        ]:
            self.refused(("grow", 0, one, other))

    def test_grow_of_turns_beyond_99(self):
        self.refused(("grow", 0, ("a", 100), ("a", 99)))
        self.refused(("grow", 0, ("a", -99), ("a", -100)))
        self.refused(("grow", 0, ("a", 101), ("a", 100)))

    def test_grow_of_what_are_no_signs(self):
        wrong_tuples = [(), ("a",), ("a", 1, 1), ("a", 0, 0), ("A", 1), ("A", 0), (0, "a"), (("a", 0),)]
        for thing in odd_things() + NUMBERS + TEXTS + wrong_tuples + [["a", 1], ["a", 0]]:
            self.refused(("grow", 0, thing, ("a", 0)))
            self.refused(("grow", 0, ("a", 1), thing))
            self.refused(("grow", 0, thing, thing))
        self.refused(("grow", 0, ("a", True), ("a", False)))
        self.refused(("grow", 0, ("a", True), ("a", 0)))
        self.refused(("grow", 0, ("a", 1), ("a", False)))

    def test_a_thing_that_is_no_place(self):
        for thing in odd_things() + TEXTS + TUPLES:
            self.refused(("cancel", thing))
            self.refused(("order", thing, "b"))
            self.refused(("grow", thing, ("a", 1), ("a", 0)))

    def test_a_truth_for_a_place(self):
        self.refused(("cancel", False))
        self.refused(("cancel", True), (("x", 0), ("a", 0), ("a", 1)))
        self.refused(("order", False, "a"))
        self.refused(("order", True, "b"))
        self.refused(("grow", False, ("a", 1), ("a", 0)))
        self.refused(("grow", True, ("a", 1), ("a", 0)))

    def test_another_first_word(self):
        for word in odd_things() + NUMBERS + TUPLES + ["", "Cancel", "cancels", "cancel ", "orders", "growth", "\n"]:
            self.refused((word, 0))
            self.refused((word, 0, "a"))
            self.refused((word, 0, ("a", 1), ("a", 0)))
        self.refused(("order", 0))
        self.refused(("grow", 0))
        self.refused(("cancel", 0, "a"))
        self.refused(("grow", 0, "a"))
        self.refused(("cancel", 0, ("a", 1), ("a", 0)))
        self.refused(("order", 0, ("a", 1), ("a", 0)))

    def test_lists(self):
        self.refused(["cancel", 0])
        self.refused(["order", 0, "b"])
        self.refused(["grow", 0, ("a", 1), ("a", 0)])
        self.refused(("grow", 0, ["a", 1], ("a", 0)))
        self.refused(("grow", 0, ("a", 1), ["a", 0]))

    def test_parts_more_or_fewer(self):
        for step in [
            (),
            ("cancel",),
            ("cancel", 0, 0),
            ("cancel", 0, None),
            ("order",),
            ("order", 0, "b", None),
            ("order", 0, "b", "b"),
            ("grow",),
            ("grow", 0, ("a", 1)),
            ("grow", 0, ("a", 1), ("a", 0), None),
            ("grow", 0, (("a", 1), ("a", 0))),
        ]:
            self.refused(step)

    def test_things_that_are_no_steps(self):
        for thing in odd_things() + NUMBERS + TEXTS + TUPLES + ["cancel", "cancel 0"]:
            self.refused(thing)

    def test_behind_steps_that_change_the_row(self):
        grows = tuple([("grow", 0, ("a", 1), ("a", 0))] * 1200)
        for wrong in [("cancel", 2400), ("order", 2400, "a"), ("grow", 2401, ("a", 1), ("a", 0)), ("cancel", 0), None]:
            with self.assertRaises(NoStep) as caught:
                self.asked((), (), grows + (wrong, None))
            self.assertEqual(caught.exception.number, 1200)
        walk = (("cancel", 0), ("cancel", 0))
        with self.assertRaises(NoStep) as caught:
            self.asked(ORDER, ROW, walk)
        self.assertEqual(caught.exception.number, 1)


class CancelsInTest(unittest.TestCase):
    def test_no_signs_and_one(self):
        self.assertEqual(cancels_in(ORDER, ()), [])
        self.assertEqual(cancels_in(ORDER, (("a", 0),)), [])

    def test_several_signs(self):
        self.assertEqual(cancels_in(ORDER, ROW), [0, 3])
        self.assertEqual(cancels_in((), ROW), [3])
        self.assertEqual(cancels_in((), (("a", 0), ("a", 1), ("a", 2), ("a", 3))), [0, 1, 2])
        self.assertEqual(cancels_in((), (("a", 1), ("a", 0))), [])

    def test_long_rows(self):
        row = (("a", 0), ("b", 1)) * 2000
        self.assertEqual(cancels_in(ORDER, row), list(range(0, 4000, 2)))
        row = tuple([("abc"[at * at % 3], at * at % 7 - 3) for at in range(1500)])
        places = [at for at in range(1499) if cancel(ORDER, row[at], row[at + 1])]
        self.assertEqual(cancels_in(ORDER, row), places)
        self.assertNotEqual(places, [])

    def test_a_new_list(self):
        told = cancels_in(ORDER, ROW)
        self.assertIsInstance(told, list)
        told.clear()
        self.assertEqual(cancels_in(ORDER, ROW), [0, 3])

    def test_these_and_no_others_can_be_gone(self):
        for at in range(-1, len(ROW) + 1):
            if at in cancels_in(ORDER, ROW):
                gone(ORDER, ROW, (("cancel", at),))
            else:
                with self.assertRaises(NoStep):
                    gone(ORDER, ROW, (("cancel", at),))


if __name__ == "__main__":
    unittest.main()
