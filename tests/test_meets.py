"""met and whole_met of crystalwords.meets."""

import copy
import random
import unittest
from fractions import Fraction

from crystalwords.errors import CrystalError, NoPlace
from crystalwords.meets import met, whole_met
from samples import HUNDRED_NINES, all_whole, frozen, is_place, random_rows, row_product, still_rows, worth

SIZES = ((1, 1), (1, 12), (40, 1), (2, 2), (3, 3), (2, 5), (5, 2), (12, 12), (13, 12), (12, 13), (40, 3), (40, 12))


def taken(rows, numbers):
    return [sum(a * b for a, b in zip(row, numbers)) for row in rows]


def all_noughts(numbers):
    return not any(numbers)


class MeetCase(unittest.TestCase):
    def check_call(self, call, rows, tops, under):
        kept = copy.deepcopy((rows, tops))
        told = call(rows, tops, under)
        self.assertEqual((rows, tops), kept)
        self.assertIs(type(told), tuple)
        self.assertEqual(len(told), 2)
        self.assertIs(type(told[0]), str)
        if told[0] == "place":
            self.assertTrue(is_place(told[1], len(rows[0])))
        else:
            self.assertEqual(told[0], "row")
            self.assertIs(type(told[1]), tuple)
            self.assertEqual(len(told[1]), len(rows))
            self.assertTrue(all_whole(told[1]))
            self.assertTrue(all_noughts(row_product([told[1]], rows)[0]))
        return told

    def check_met(self, rows, tops, under, wanted):
        """wanted: place, row, or None where either may come."""
        sort, told = self.check_call(met, rows, tops, under)
        if sort == "place":
            self.assertEqual(taken(rows, worth(told)), [Fraction(top, under) for top in tops])
        else:
            self.assertNotEqual(sum(y * top for y, top in zip(told, tops)), 0)
        self.assertIn(wanted, (None, sort))

    def check_whole(self, rows, tops, under, wanted):
        sort, told = self.check_call(whole_met, rows, tops, under)
        if sort == "place":
            for got, top in zip(taken(rows, worth(told)), tops):
                self.assertEqual((got - Fraction(top, under)).denominator, 1)
        else:
            self.assertNotEqual(sum(y * top for y, top in zip(told, tops)) % under, 0)
        self.assertIn(wanted, (None, sort))

    def check(self, rows, tops, under, exact, whole):
        with self.subTest(n=len(rows), m=len(rows[0]), under=under):
            self.check_met(rows, tops, under, exact)
            self.check_whole(rows, tops, under, whole)


class WrittenOut(MeetCase):
    def test_one_place_alone(self):
        for rows, tops, under, wanted in (
            ([[2]], [1], 1, ((1,), 2)),
            ([[2]], [3], -6, ((-1,), 4)),
            ([[1, 0], [0, 1]], [2, 4], 6, ((1, 2), 3)),
            ([[1, 2], [3, 4]], [5, 11], 1, ((1, 2), 1)),
            ([[1, 2], [3, 4]], [5, 11], -7, ((-1, -2), 7)),
            ([[2], [4], [0]], [1, 2, 0], 3, ((1,), 6)),
            ([[0, 3], [5, 0]], [1, 1], 1, ((3, 5), 15)),
            ([[1, 1], [1, -1]], [1, 0], 1, ((1, 1), 2)),
        ):
            with self.subTest(rows=rows):
                self.assertEqual(met(rows, tops, under), ("place", wanted))
                self.assertEqual(met(frozen(rows), tuple(tops), under), ("place", wanted))
                self.check(rows, tops, under, "place", "place")

    def test_which_is_told(self):
        for rows, tops, under, exact, whole in (
            ([[0]], [0], 1, "place", "place"),
            ([[0]], [1], 1, "row", "place"),
            ([[0]], [1], 2, "row", "row"),
            ([[0]], [4], -2, "row", "place"),
            ([[0, 0], [0, 0]], [0, 0], 5, "place", "place"),
            ([[0, 0], [0, 0]], [0, 3], 3, "row", "place"),
            ([[0, 0], [0, 0]], [3, 1], 3, "row", "row"),
            ([[1], [1]], [1, 1], 2, "place", "place"),
            ([[1], [1]], [1, 3], 2, "row", "place"),
            ([[1], [1]], [1, 2], 2, "row", "row"),
            ([[2], [4]], [1, 0], 2, "row", "place"),
            ([[2], [4]], [1, 0], 3, "row", "row"),
            ([[2], [3]], [0, 1], 2, "row", "place"),
            ([[2], [3]], [1, 1], 5, "row", "row"),
            ([[1, 1], [1, 1], [1, 1]], [1, 1, 1], 7, "place", "place"),
            ([[1, 1], [1, 1], [1, 1]], [1, 8, -6], 7, "row", "place"),
            ([[1, 1], [1, 1], [1, 1]], [1, 8, -5], 7, "row", "row"),
            ([[-2, 0], [0, 0]], [1, 1], 2, "row", "row"),
            ([[-2, 0], [0, 0]], [1, 2], 2, "row", "place"),
            ([[1, 2, 3], [4, 5, 6], [7, 8, 9]], [1, 1, 1], 2, "place", "place"),
            ([[1, 2, 3], [4, 5, 6], [7, 8, 9]], [1, 0, 0], 1, "row", "place"),
            ([[1, 2, 3], [4, 5, 6], [7, 8, 9]], [1, 0, 0], 2, "row", "row"),
        ):
            with self.subTest(rows=rows, tops=tops, under=under):
                self.check(rows, tops, under, exact, whole)
                self.check(rows, [-6 * top for top in tops], -6 * under, exact, whole)
                self.check(rows, [10 ** 60 * top for top in tops], 10 ** 60 * under, exact, whole)
                self.check(frozen(rows), tuple(tops), under, exact, whole)

    def test_lists_and_tuples_tell_the_same(self):
        rows = [[1, 2, 3], [4, 5, 6], [7, 8, 9]]
        for call in (met, whole_met):
            for tops, under in (([1, 1, 1], 2), ([1, 0, 0], 2), ([1, 0, 0], 1)):
                wanted = call(rows, tops, under)
                self.assertEqual(call(frozen(rows), tuple(tops), under), wanted)
                self.assertEqual(call(list(frozen(rows)), tuple(tops), under), wanted)
                self.assertEqual(call(rows, [3 * top for top in tops], 3 * under), wanted)
                self.assertEqual(call(rows, [-top for top in tops], -under), wanted)


class Many(MeetCase):
    def three_places(self, chance, rows, figures):
        """A place that is met, one that is met but for whole numbers, and any one."""
        bound = 10 ** figures - 1
        n, m = len(rows), len(rows[0])
        under = chance.choice((1, -1)) * chance.randint(1, bound)
        start = [chance.randint(-9, 9) for k in range(m)]
        exact = [sum(a * b for a, b in zip(row, start)) for row in rows]
        self.check(rows, exact, under, "place", "place")
        whole = [top + under * chance.randint(-9, 9) for top in exact]
        self.check(rows, whole, under, None, "place")
        self.check(rows, [chance.randint(-bound, bound) for i in range(n)], under, None, None)
        self.check(rows, [0] * n, under, "place", "place")

    def test_many_sizes(self):
        chance = random.Random(30)
        for n, m in SIZES:
            for figures in (1, 3):
                self.three_places(chance, random_rows(chance, n, m, figures), figures)

    def test_small_ones(self):
        chance = random.Random(31)
        for trial in range(150):
            n, m = chance.randint(1, 5), chance.randint(1, 5)
            rows = [[chance.randint(-2, 2) for k in range(m)] for i in range(n)]
            self.three_places(chance, rows, 1)

    def test_rows_that_are_sums_of_others(self):
        chance = random.Random(32)
        for n, m, rank in ((2, 2, 1), (5, 5, 2), (4, 12, 3), (12, 4, 3), (12, 12, 7), (40, 12, 5)):
            for figures in (1, 20):
                rows = row_product(random_rows(chance, n, rank, figures), random_rows(chance, rank, m, figures))
                self.three_places(chance, rows, figures)

    def test_noughts_alone(self):
        chance = random.Random(33)
        for n, m in ((1, 1), (3, 2), (40, 12)):
            self.three_places(chance, [[0] * m for i in range(n)], 2)

    def test_great_numbers(self):
        chance = random.Random(34)
        for n, m in ((1, 1), (2, 2), (3, 2), (2, 3), (6, 6), (12, 12)):
            self.three_places(chance, random_rows(chance, n, m, 98), 98)
        self.check([[HUNDRED_NINES]], [1], HUNDRED_NINES, "place", "place")
        self.check([[HUNDRED_NINES], [HUNDRED_NINES]], [1, 2], HUNDRED_NINES, "row", "row")
        self.check([[HUNDRED_NINES], [HUNDRED_NINES]], [1, HUNDRED_NINES + 1], HUNDRED_NINES, "row", "place")

    def test_great_numbers_in_many_rows(self):
        chance = random.Random(35)
        rows = random_rows(chance, 40, 12, 98)
        under = chance.randint(10 ** 99, 10 ** 100 - 1)
        start = [chance.randint(-9, 9) for k in range(12)]
        exact = [sum(a * b for a, b in zip(row, start)) for row in rows]
        self.check(rows, exact, under, "place", "place")
        exact[7] += 1
        self.check(rows, exact, under, "row", "row")

    def test_more_rows_than_columns_are_seldom_met(self):
        chance = random.Random(36)
        for n, m in ((2, 1), (5, 3), (13, 12), (40, 12)):
            rows = random_rows(chance, n, m, 2)
            tops = [chance.randint(1, 99) for i in range(n)]
            self.check(rows, tops, 101, "row", None)

    def test_fewer_rows_than_columns(self):
        chance = random.Random(37)
        for n, m in ((1, 2), (3, 5), (11, 12)):
            rows = random_rows(chance, n, m, 2)
            self.check(rows, [chance.randint(1, 99) for i in range(n)], 101, "place", "place")

    def test_what_was_told_may_be_handed_in_again(self):
        chance = random.Random(38)
        rows = random_rows(chance, 6, 6, 98)
        told = met(rows, [chance.randint(1, 99) for i in range(6)], 97)[1]
        self.check(still_rows(6), list(told[0]), told[1], "place", "place")
        self.check(rows, list(told[0]), told[1], "place", "place")


class Refused(unittest.TestCase):
    def test_an_under_of_nought(self):
        for call in (met, whole_met):
            for rows, tops in (
                ([[1]], [1]), ([[0]], [0]), ([[1, 2], [3, 4]], [0, 0]), (((1, 2), (3, 4)), (5, 6)),
                ([[0, 0], [0, 0], [0, 0]], [1, 0, 1]), ([[1] * 12] * 40, [1] * 40), ([[10 ** 99]], [10 ** 99]),
            ):
                with self.subTest(call=call.__name__, rows=rows):
                    kept = copy.deepcopy((rows, tops))
                    with self.assertRaises(CrystalError) as caught:
                        call(rows, tops, 0)
                    self.assertIs(type(caught.exception), NoPlace)
                    self.assertEqual((rows, tops), kept)


if __name__ == "__main__":
    unittest.main()
