"""times and determinant of crystalwords.wholerows."""

import copy
import random
import unittest
from itertools import permutations

from crystalwords.wholerows import determinant, inverse, still_rows, times, turned
from samples import HUNDRED_NINES, all_whole, frozen, no_list_twice, random_rows, row_product, unimodular


def sum_over_orders(rows):
    """The determinant by its definition: the sum over all orders of the columns."""
    total = 0
    for order in permutations(range(len(rows))):
        term = 1
        for i, k in enumerate(order):
            term *= rows[i][k]
            term *= (-1) ** sum(order[j] > k for j in range(i))
        total += term
    return total


class Times(unittest.TestCase):
    def check(self, one, other):
        kept = copy.deepcopy((one, other))
        told = times(one, other)
        self.assertEqual((one, other), kept)
        self.assertEqual(told, row_product(one, other))
        self.assertIs(type(told), list)
        self.assertTrue(all(type(row) is list for row in told))
        self.assertTrue(all_whole(told))
        self.assertTrue(no_list_twice(told))
        handed = {id(row) for row in list(one) + list(other)} | {id(one), id(other)}
        self.assertFalse(handed & {id(row) for row in told + [told]})
        self.assertEqual(times(frozen(one), frozen(other)), told)
        self.assertEqual(times(one, frozen(other)), told)

    def test_written_out(self):
        self.assertEqual(times([[1, 2], [3, 4]], [[5, 6], [7, 8]]), [[19, 22], [43, 50]])
        self.assertEqual(times([[1, 2, 3]], [[4], [5], [6]]), [[32]])
        self.assertEqual(times([[4], [5]], [[1, -2, 0]]), [[4, -8, 0], [5, -10, 0]])
        self.assertEqual(times([[-7]], [[6]]), [[-42]])

    def test_many_sizes(self):
        chance = random.Random(9)
        for n, m, k in (
            (1, 1, 1), (1, 12, 1), (40, 1, 12), (2, 3, 4), (40, 12, 12), (12, 12, 12), (40, 12, 1), (7, 5, 3),
            (40, 40, 12), (3, 40, 2),
        ):
            for figures in (1, 4, 100):
                with self.subTest(n=n, m=m, k=k, figures=figures):
                    self.check(random_rows(chance, n, m, figures), random_rows(chance, m, k, figures))

    def test_one_behind_the_other_is_not_the_same_turned_about(self):
        one, other = [[1, 1], [0, 1]], [[1, 0], [1, 1]]
        self.assertEqual(times(one, other), [[2, 1], [1, 1]])
        self.assertEqual(times(other, one), [[1, 1], [1, 2]])

    def test_the_same_rows_on_both_sides(self):
        rows = [[1, 2], [3, 4]]
        self.check(rows, rows)
        row = [2, 3]
        self.check([row, row], [row, row])

    def test_still_rows_alter_nothing(self):
        rows = [[1, -2], [3, 4], [0, 9]]
        self.assertEqual(times(still_rows(3), rows), rows)
        self.assertEqual(times(rows, still_rows(2)), rows)

    def test_altering_the_answer_alters_nothing_else(self):
        one, other = [[1, 0], [0, 1]], [[1, 2], [3, 4]]
        told = times(one, other)
        told[0][0] = 99
        told.append([])
        self.assertEqual((one, other), ([[1, 0], [0, 1]], [[1, 2], [3, 4]]))
        self.assertEqual(times(one, other), [[1, 2], [3, 4]])


class Determinant(unittest.TestCase):
    def check(self, rows, wanted):
        kept = copy.deepcopy(rows)
        told = determinant(rows)
        self.assertEqual(rows, kept)
        self.assertEqual(told, wanted)
        self.assertIs(type(told), int)
        self.assertEqual(determinant(frozen(rows)), wanted)

    def test_written_out(self):
        for rows, wanted in (
            ([[5]], 5), ([[-5]], -5), ([[0]], 0),
            ([[1, 2], [3, 4]], -2), ([[3, 4], [1, 2]], 2), ([[2, 4], [1, 2]], 0),
            ([[0, 1], [1, 0]], -1), ([[0, -1], [1, 0]], 1),
            ([[2, 0, 0], [0, 3, 0], [0, 0, 4]], 24), ([[0, 0, 1], [1, 0, 0], [0, 1, 0]], 1),
            ([[1, 2, 3], [4, 5, 6], [7, 8, 9]], 0), ([[1, 2, 3], [4, 5, 6], [7, 8, 10]], -3),
            ([[0, 1, 0, 0], [1, 0, 0, 0], [0, 0, 0, 1], [0, 0, 1, 0]], 1),
            ([[0, 0, 0, 1], [1, 0, 0, 0], [0, 1, 0, 0], [0, 0, 1, 0]], -1),
            ([[1, 2, 3, 4], [2, 3, 4, 1], [3, 4, 1, 2], [4, 1, 2, 3]], 160),
        ):
            with self.subTest(rows=rows):
                self.check(rows, wanted)

    def test_by_its_definition(self):
        chance = random.Random(10)
        for n in (1, 2, 3, 4, 5):
            for figures in (1, 2, 30, 100):
                for trial in range(8):
                    rows = random_rows(chance, n, n, figures)
                    with self.subTest(rows=rows):
                        self.check(rows, sum_over_orders(rows))

    def test_nought_where_a_row_is_a_sum_of_others(self):
        chance = random.Random(11)
        for n in (2, 3, 4):
            rows = random_rows(chance, n, n, 49)
            rows[-1] = [3 * sum(row[k] for row in rows[:-1]) for k in range(n)]
            self.check(rows, 0)

    def test_great_numbers_that_come_to_little(self):
        self.check([[HUNDRED_NINES, HUNDRED_NINES - 1], [HUNDRED_NINES + 1, HUNDRED_NINES]], 1)
        self.check([[HUNDRED_NINES + 1, HUNDRED_NINES], [HUNDRED_NINES, HUNDRED_NINES - 1]], -1)

    def test_of_a_product(self):
        chance = random.Random(12)
        for n in (1, 2, 3, 4):
            one, other = random_rows(chance, n, n, 20), random_rows(chance, n, n, 20)
            self.assertEqual(determinant(times(one, other)), determinant(one) * determinant(other))


class Helpers(unittest.TestCase):
    def test_inverse(self):
        chance = random.Random(13)
        for n in (2, 3, 4):
            for bound in (1, 5, 10 ** 24):
                rows, undone = unimodular(chance, n, bound)
                self.assertEqual(inverse(rows), undone)
                self.assertEqual(inverse(frozen(rows)), undone)

    def test_turned(self):
        self.assertEqual(turned([[1, 2, 3], [4, 5, 6]]), [[1, 4], [2, 5], [3, 6]])


if __name__ == "__main__":
    unittest.main()
