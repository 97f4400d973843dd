import itertools
import random
import unittest

from tests.trials import chance_row
from wordwishes.plainrows import plain_rows
from wordwishes.signs import cancel
from wordwishes.walks import cancels_in

ORDER = (("a", "b"), ("c", "b"))


def plain(*turns):
    return tuple([("a", turn) for turn in turns])


def plain_rows_by_search(order, row):
    """By trial of all cancels, one behind the other."""
    shorter = [row[:at] + row[at + 2 :] for at in range(len(row) - 1) if cancel(order, row[at], row[at + 1])]
    if not shorter:
        return {row}
    told = set()
    for one in shorter:
        told |= plain_rows_by_search(order, one)
    return told


class PlainRowsTest(unittest.TestCase):
    def looked_at(self, order, row):
        told = plain_rows(order, row)
        self.assertIsInstance(told, list)
        for one in told:
            self.assertIsInstance(one, tuple)
            self.assertEqual(cancels_in(order, one), [])
        self.assertEqual(told, sorted(plain_rows_by_search(order, row)))
        return told

    def test_no_signs(self):
        self.assertEqual(plain_rows(ORDER, ()), [()])
        self.assertEqual(plain_rows((), ()), [()])

    def test_a_plain_row_comes_to_itself(self):
        for row in [plain(0), plain(1, 0), plain(0, 0, 2), plain(5, 4, 3, 2, 1), (("b", 0), ("a", 1))]:
            self.assertEqual(plain_rows(ORDER, row), [row])

    def test_one_plain_row(self):
        self.assertEqual(plain_rows((), plain(0, 1)), [()])
        self.assertEqual(plain_rows((), plain(0, 0, 1, 1)), [()])
        self.assertEqual(plain_rows((), plain(3, 0, 1, 3)), [plain(3, 3)])

    def test_several(self):
        self.assertEqual(plain_rows((), plain(0, 1, 2)), [plain(0), plain(2)])
        self.assertEqual(plain_rows((), plain(5, 0, 1, 2, 5)), [plain(5, 0, 5), plain(5, 2, 5)])

    def test_of_several_lengths(self):
        self.assertEqual(plain_rows((), plain(0, 1, 2, 3)), [(), plain(0, 3)])
        self.assertEqual(plain_rows((), plain(0, 1, 1, 2, 2, 3)), self.looked_at((), plain(0, 1, 1, 2, 2, 3)))
        lengths = {len(row) for row in self.looked_at((), plain(0, 1, 2, 3, 4, 5))}
        self.assertGreater(len(lengths), 1)

    def test_by_the_order(self):
        row = (("a", 0), ("b", 1), ("c", 2))
        self.assertEqual(plain_rows(ORDER, row), [(("a", 0),), (("c", 2),)])
        self.assertEqual(plain_rows((), row), [row])
        self.assertEqual(plain_rows(ORDER[:1], row), [(("c", 2),)])

    def test_sorted_as_tuples(self):
        row = (("b", 0), ("b", 1), ("b", 2), ("a", 0), ("a", 1), ("a", 2))
        told = plain_rows((), row)
        self.assertEqual(told, sorted(told))
        self.assertEqual(len(told), 4)

    def test_each_once(self):
        self.assertEqual(plain_rows((), plain(0, 1) * 5), [()])
        self.assertEqual(self.looked_at((), plain(0, 1, 0, 1, 0)), [plain(0)])

    def test_all_small_rows(self):
        for many in range(7):
            for turns in itertools.product([0, 1, 2], repeat=many):
                self.looked_at((), plain(*turns))

    def test_by_chance_up_to_ten_signs(self):
        chance = random.Random(16)
        several = 0
        for time in range(300):
            row = chance_row(chance, 10, "abc", (0, 1, 2))
            several += len(self.looked_at(ORDER, row)) > 1
            several += len(self.looked_at((), plain(*[chance.randrange(4) for at in range(10)]))) > 1
        self.assertGreater(several, 30)

    def test_ten_signs(self):
        self.looked_at((), plain(*range(10)))
        self.looked_at((), plain(0, 1, 2, 1, 2, 3, 2, 3, 4, 5))
        self.looked_at((), plain(*[9 - at for at in range(10)]))

    def test_a_told_list_that_is_changed_changes_nothing(self):
        row = plain(0, 1, 2)
        told = plain_rows((), row)
        told.reverse()
        told.append("spoilt")
        self.assertEqual(plain_rows((), row), [plain(0), plain(2)])
        self.assertEqual(row, plain(0, 1, 2))


if __name__ == "__main__":
    unittest.main()
