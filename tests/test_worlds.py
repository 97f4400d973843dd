import random
import unittest

from tests.things import NUMBERS, TEXTS, TUPLES, AlikeToAll, bent, odd_things
from tests.trials import chance_lexicon, is_world_by_hand, world_by_chance
from wordwishes.lexicontexts import read_lexicon
from wordwishes.worlds import is_world

LEXICON = read_lexicon("goal s; n < np; e: 1; john: n | np; runs: np.r s")
SIZES = (("n", 2), ("np", 2), ("s", 1))
SUMS = ("sums", SIZES, ((((1, 2),),), (((0, 1), (-3, 4)), ((1, 1), (5, 1))), (((2, 3), (-1, 1)),)))
TRUTHS = ("truths", SIZES, (((True,),), ((True, False), (False, False)), ((True, True),)))
# One word with one kind of one sign, whose cell is handed in.
BARE = read_lexicon("goal s; a: s")


def bare(*cells, how="sums", size=1):
    return (how, (("s", size),), ((tuple(cells),),))


class IsWorldTest(unittest.TestCase):
    def is_one(self, world, lexicon=LEXICON):
        self.assertIs(is_world(lexicon, world), True)

    def is_none(self, world, lexicon=LEXICON):
        with self.subTest(repr(world)):
            self.assertIs(is_world(lexicon, world), False)

    def test_worlds(self):
        self.is_one(SUMS)
        self.is_one(TRUTHS)
        self.is_one(bare((1, 1)), BARE)
        self.is_one(bare(True, how="truths"), BARE)

    def test_worlds_by_chance(self):
        chance = random.Random(17)
        for time in range(100):
            lexicon = chance_lexicon(chance, 3, 4, 4)
            for how in ["sums", "truths"]:
                world = world_by_chance(chance, lexicon, how)
                self.is_one(world, lexicon)

    def test_sizes_from_1_to_3(self):
        for size in [1, 2, 3]:
            self.is_one(bare(*[(0, 1)] * size, size=size), BARE)
            self.is_one(bare(*[False] * size, how="truths", size=size), BARE)
        for size in [0, 4, -1, 10**30]:
            for many in range(6):
                self.is_none(bare(*[(0, 1)] * many, size=size), BARE)
                self.is_none(bare(*[False] * many, how="truths", size=size), BARE)

    def test_a_truth_for_a_size(self):
        self.is_none(bare((0, 1), size=True), BARE)
        self.is_none(bare(False, how="truths", size=True), BARE)
        self.is_none(bare(size=False), BARE)

    def test_bent_in_one_place_at_any_depth(self):
        for world in [SUMS, TRUTHS]:
            found = {True: 0, False: 0}
            for thing in bent(world):
                right = is_world_by_hand(LEXICON, thing)
                with self.subTest(repr(thing)):
                    self.assertIs(is_world(LEXICON, thing), right)
                found[right] += 1
            self.assertGreater(found[True], 5)
            self.assertGreater(found[False], 500)

    def test_how(self):
        texts = ["", "sum", "Sums", "sumss", "truth", "truths ", "\n"]
        for how in odd_things() + NUMBERS + TUPLES + texts + [AlikeToAll()]:
            self.is_none((how,) + SUMS[1:])
            self.is_none((how,) + TRUTHS[1:])
        self.is_none(("truths",) + SUMS[1:])
        self.is_none(("sums",) + TRUTHS[1:])

    def test_marks_more_fewer_and_in_another_order(self):
        for sizes in [
            SIZES[:2],
            SIZES[1:],
            (SIZES[0], SIZES[2]),
            SIZES + (("z", 1),),
            (("a", 1),) + SIZES,
            SIZES + (("s", 1),),
            SIZES[::-1],
            (SIZES[1], SIZES[0], SIZES[2]),
            (),
            (("n", 2), ("np", 2), ("t", 1)),
            (("n", 2), ("np", 2), (AlikeToAll(), 1)),
            (("n", 2), ("np", 2), "s1"),
            (("n", 2), ("np", 2), ("s",)),
            (("n", 2), ("np", 2), ("s", 1, 1)),
            (("n", 2), ("np", 2), ["s", 1]),
            list(SIZES),
            dict(SIZES),
            None,
        ]:
            self.is_none(("sums", sizes, SUMS[2]))
            self.is_none(("truths", sizes, TRUTHS[2]))

    def test_sizes_unlike_by_the_order(self):
        # Of x and a neither is at most the other, but both are at most c.
        lexicon = read_lexicon("goal a; a < b; b < c; x < c; w: 1; v: q")
        for sizes in [(1, 2, 2, 2, 2), (2, 2, 1, 1, 2), (1, 1, 2, 1, 1), (1, 1, 1, 1, 2), (1, 2, 1, 1, 1)]:
            marks = tuple(zip("abcqx", sizes))
            self.is_none(("sums", marks, ((((1, 1),),), (((1, 1),) * sizes[3],))), lexicon)
        for alike, other in [(1, 2), (2, 1), (3, 3), (3, 1)]:
            marks = tuple(zip("abcqx", (alike, alike, alike, other, alike)))
            self.is_one(("sums", marks, ((((1, 1),),), (((1, 1),) * other,))), lexicon)

    def test_sizes_unlike_where_the_order_says_nothing(self):
        lexicon = read_lexicon("goal s; a: n s")
        for one in [1, 2, 3]:
            for other in [1, 2, 3]:
                sizes = (("n", one), ("s", other))
                self.is_one(("truths", sizes, (((True,) * (one * other),),)), lexicon)
                self.is_none(("truths", sizes, (((True,) * (one * other + 1),),)), lexicon)
                self.is_none(("truths", sizes, (((True,) * (one * other - 1),),)), lexicon)

    def test_tables_and_cells_more_and_fewer(self):
        how, sizes, tables = SUMS
        for wrong in [
            (),
            tables[:2],
            tables[1:],
            tables + (tables[2],),
            tables + ((),),
            list(tables),
            (list(tables[0]),) + tables[1:],
            tables[:2] + ((list(tables[2][0]),),),
            (tables[1], tables[0], tables[2]),
            ((),) + tables[1:],
            ((((1, 2),), ((1, 2),)),) + tables[1:],
            ((((1, 2), (1, 2)),),) + tables[1:],
            (((),),) + tables[1:],
            tables[:1] + (tables[1][:1],) + tables[2:],
            tables[:1] + (tables[1] + tables[1][:1],) + tables[2:],
            tables[:2] + ((((2, 3),),),),
            tables[:2] + ((((2, 3), (-1, 1), (0, 1)),),),
            None,
            {},
        ]:
            self.is_none((how, sizes, wrong))

    def test_a_kind_without_signs_has_one_cell(self):
        lexicon = read_lexicon("goal s; e: 1")
        for size in [1, 2, 3]:
            self.is_one(("sums", (("s", size),), ((((7, 2),),),)), lexicon)
            self.is_none(("sums", (("s", size),), (((),),)), lexicon)
            self.is_none(("sums", (("s", size),), ((((7, 2), (7, 2)),),)), lexicon)

    def test_fractions_in_lowest_terms(self):
        for cell in [(0, 1), (1, 1), (-1, 1), (7, 3), (-7, 3), (3, 7), (-1, 10**29), (10**29, 7), (10**30 - 1, 10)]:
            self.is_one(bare(cell), BARE)
        for cell in [(0, 2), (2, 2), (2, 4), (-2, 4), (6, 3), (10**29, 10**28), (3 * 7**20, 3 * 5**20), (0, 10**29)]:
            self.is_none(bare(cell), BARE)

    def test_bottoms_of_0_and_below(self):
        for cell in [(0, 0), (1, 0), (1, -1), (-1, -1), (0, -1), (-1, -2), (5, -3)]:
            self.is_none(bare(cell), BARE)

    def test_thirty_figures_and_thirty_one(self):
        most = 10**30 - 1
        for cell in [(most, 1), (-most, 1), (1, most), (-1, most), (most - 1, most), (1 - most, most)]:
            self.is_one(bare(cell), BARE)
        far = 10**400
        for cell in [(most + 1, 1), (-most - 1, 1), (1, most + 1), (-1, most + 1), (far, 1), (1, far)]:
            self.is_none(bare(cell), BARE)

    def test_what_divides_both_is_not_sought_by_trying_all(self):
        one, other, third = 10**14 + 31, 10**14 + 67, 10**14 + 97
        self.is_one(bare((one * other, one * other - 1)), BARE)
        self.is_none(bare((one * other, one * third)), BARE)
        self.is_none(bare((-one * other, one * third)), BARE)

    def test_truths_for_numbers_and_numbers_for_truths(self):
        for cell in [(True, 1), (1, True), (False, 1), (True, True), True, False]:
            self.is_none(bare(cell), BARE)
        for cell in [1, 0, (1, 1), (0, 1), None, "True", "", (), (True,), [True]]:
            self.is_none(bare(cell, how="truths"), BARE)
        self.is_one(bare(True, how="truths"), BARE)
        self.is_one(bare(False, how="truths"), BARE)

    def test_what_is_no_fraction(self):
        wrong = [(), (1,), (1, 1, 1), [1, 1], ("1", "1"), (1, None), ((1, 1),), ((1, 1), 1)]
        for cell in odd_things() + NUMBERS + TEXTS + wrong:
            self.is_none(bare(cell), BARE)

    def test_things_of_any_kind(self):
        for thing in odd_things() + NUMBERS + TEXTS + TUPLES:
            self.is_none(thing)
            self.is_none((thing, thing, thing))
            self.is_none((thing,) + SUMS[1:])
            self.is_none((SUMS[0], thing, SUMS[2]))
            self.is_none(SUMS[:2] + (thing,))
        self.is_none(SUMS[:2])
        self.is_none(SUMS + ((),))
        self.is_none(list(SUMS))

    def test_a_world_for_another_lexicon(self):
        self.is_none(SUMS, BARE)
        self.is_none(bare((1, 1)), LEXICON)


if __name__ == "__main__":
    unittest.main()
