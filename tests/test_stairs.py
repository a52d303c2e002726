"""stairs of crystalwords.stairs."""

import copy
import random
import unittest

from crystalwords.stairs import stairs
from samples import (
    HUNDRED_NINES, all_whole, frozen, lists_within, no_list_twice, random_rows, row_product, still_rows, unimodular,
)

# Each of them with its one form.
WRITTEN = (
    ([[5]], [[5]]),
    ([[-5]], [[5]]),
    ([[0]], [[0]]),
    ([[0], [0]], [[0], [0]]),
    ([[4], [6]], [[2], [0]]),
    ([[0], [-3]], [[3], [0]]),
    ([[0, -4, 2]], [[0, 4, -2]]),
    ([[1, 2], [3, 4]], [[1, 0], [0, 2]]),
    ([[2, 1], [0, 3]], [[2, 1], [0, 3]]),
    ([[2, 7], [0, 3]], [[2, 1], [0, 3]]),
    ([[2, -1], [0, 3]], [[2, 2], [0, 3]]),
    ([[0, 1], [1, 0]], [[1, 0], [0, 1]]),
    ([[2, 4], [1, 2]], [[1, 2], [0, 0]]),
    ([[0, 0], [0, 7]], [[0, 7], [0, 0]]),
    ([[0, 6], [0, 4], [0, 0]], [[0, 2], [0, 0], [0, 0]]),
    ([[1, 2, 3], [2, 4, 7]], [[1, 2, 0], [0, 0, 1]]),
    ([[1, 2, 3], [4, 5, 6], [7, 8, 9]], [[1, 2, 3], [0, 3, 6], [0, 0, 0]]),
    ([[3, 0, 0], [0, 0, 5], [0, 0, 0]], [[3, 0, 0], [0, 0, 5], [0, 0, 0]]),
    ([[2, 3], [4, 5], [6, 8]], [[2, 0], [0, 1], [0, 0]]),
    ([[6, 10], [15, 4], [10, 9]], [[1, 0], [0, 1], [0, 0]]),
)


def lead(row):
    return next((k for k, number in enumerate(row) if number != 0), None)


class StairsCase(unittest.TestCase):
    def check_form(self, form):
        leads = [lead(row) for row in form]
        standing = [k for k in leads if k is not None]
        self.assertEqual(leads, standing + [None] * (len(leads) - len(standing)), "rows of noughts stand last")
        self.assertTrue(all(one < other for one, other in zip(standing, standing[1:])), "further to the right")
        for i, k in enumerate(standing):
            self.assertGreaterEqual(form[i][k], 1)
            for above in form[:i]:
                self.assertTrue(0 <= above[k] < form[i][k])

    def check(self, rows):
        kept = copy.deepcopy(rows)
        told = stairs(rows)
        self.assertEqual(rows, kept)
        self.assertIs(type(told), tuple)
        self.assertEqual(len(told), 3)
        n, m = len(rows), len(rows[0])
        for table, width in zip(told, (m, n, n)):
            self.assertIs(type(table), list)
            self.assertEqual([type(row) for row in table], [list] * n)
            self.assertEqual([len(row) for row in table], [width] * n)
        self.assertTrue(all_whole(told))
        self.assertTrue(no_list_twice(told))
        handed = {id(one) for one in lists_within(rows)}
        self.assertFalse(handed & {id(one) for one in lists_within(told)})
        form, record, back = told
        self.assertEqual(row_product(record, rows), form)
        self.assertEqual(row_product(record, back), still_rows(n))
        self.assertEqual(row_product(back, record), still_rows(n))
        self.check_form(form)
        return form


class Stairs(StairsCase):
    def test_written_out(self):
        for rows, wanted in WRITTEN:
            with self.subTest(rows=rows):
                self.assertEqual(self.check(rows), wanted)
                self.assertEqual(stairs(frozen(rows)), stairs(rows))
                self.assertEqual(self.check(frozen(rows)), wanted)

    def test_many_sizes(self):
        chance = random.Random(14)
        for n, m in ((1, 1), (1, 12), (40, 1), (2, 2), (3, 5), (5, 3), (12, 12), (13, 12), (12, 5), (40, 12), (40, 3)):
            for figures in (1, 2, 9):
                with self.subTest(n=n, m=m, figures=figures):
                    self.check(random_rows(chance, n, m, figures))

    def test_small_ones(self):
        chance = random.Random(15)
        for trial in range(400):
            n, m = chance.randint(1, 5), chance.randint(1, 5)
            rows = [[chance.randint(-3, 3) for k in range(m)] for i in range(n)]
            with self.subTest(rows=rows):
                self.check(rows)

    def test_great_numbers(self):
        chance = random.Random(16)
        for n, m in ((1, 1), (2, 2), (3, 3), (4, 4), (6, 6), (12, 12), (5, 12), (14, 12), (40, 12), (40, 1)):
            with self.subTest(n=n, m=m):
                self.check(random_rows(chance, n, m, 100))

    def test_great_numbers_of_other_sorts(self):
        self.check([[HUNDRED_NINES] * 12 for i in range(40)])
        self.check([[HUNDRED_NINES - i * k if i >= k else 0 for k in range(12)] for i in range(12)])
        self.check([[(i + 2) ** (8 * k) for k in range(12)] for i in range(40)])
        self.check([[2 ** ((7 * i + 13 * k) % 332) for k in range(12)] for i in range(40)])

    def test_noughts_alone(self):
        for n, m in ((1, 1), (1, 12), (40, 1), (3, 4), (40, 12)):
            rows = [[0] * m for i in range(n)]
            self.assertEqual(self.check(rows), rows)

    def test_rows_that_are_sums_of_others(self):
        chance = random.Random(17)
        for n, m, rank, left, right in (
            (2, 2, 1, 1, 1), (5, 5, 2, 1, 2), (6, 12, 3, 2, 2), (12, 6, 3, 2, 2), (40, 12, 5, 2, 20),
            (40, 12, 11, 1, 1), (13, 12, 11, 3, 90), (12, 12, 4, 49, 49), (20, 12, 8, 90, 3),
        ):
            with self.subTest(n=n, m=m, rank=rank):
                rows = row_product(random_rows(chance, n, rank, left), random_rows(chance, rank, m, right))
                form = self.check(rows)
                self.assertEqual(form[rank:], [[0] * m for i in range(n - rank)])

    def test_columns_of_noughts(self):
        chance = random.Random(18)
        for trial in range(30):
            rows = random_rows(chance, 4, 6, 2)
            for k in chance.sample(range(6), 3):
                for row in rows:
                    row[k] = 0
            self.check(rows)

    def test_the_form_of_a_form_is_itself(self):
        chance = random.Random(19)
        for n, m in ((3, 3), (5, 3), (3, 5), (12, 12)):
            form = self.check(random_rows(chance, n, m, 3))
            self.assertEqual(self.check(form), form)


class OneForm(StairsCase):
    def check_same(self, rows, others):
        form = stairs(rows)[0]
        for other in others:
            self.assertEqual(self.check(other), form)

    def test_rows_exchanged_turned_and_added(self):
        chance = random.Random(20)
        for n, m, figures in ((2, 2, 1), (3, 3, 2), (5, 3, 1), (4, 7, 3), (12, 12, 1), (40, 12, 1), (6, 6, 40)):
            with self.subTest(n=n, m=m, figures=figures):
                rows = random_rows(chance, n, m, figures)
                exchanged = chance.sample(rows, n)
                signs = [[-number for number in row] if i % 2 else row for i, row in enumerate(rows)]
                added = [list(row) for row in rows]
                added[0] = [a + b for a, b in zip(added[0], added[-1])]
                less = [list(row) for row in rows]
                less[-1] = [b - 7 * a for a, b in zip(less[0], less[-1])]
                self.check_same(rows, (exchanged, signs, added, less, rows[::-1]))

    def test_times_rows_of_determinant_one(self):
        chance = random.Random(21)
        for n, m in ((2, 2), (3, 3), (4, 6), (6, 4), (12, 12), (20, 12)):
            for bound in (1, 10, 10 ** 20):
                rows = random_rows(chance, n, m, 2)
                rows[-1] = [a + b for a, b in zip(rows[0], rows[1])]
                with self.subTest(n=n, m=m, bound=bound):
                    self.check_same(rows, (row_product(unimodular(chance, n, bound, 3 * n)[0], rows),))

    def test_rows_of_determinant_one_have_the_still_form(self):
        chance = random.Random(22)
        for n in (1, 2, 3, 6, 12):
            self.assertEqual(self.check(unimodular(chance, n, 50, 4 * n)[0]), still_rows(n))

    def test_other_rows_have_another_form(self):
        self.assertNotEqual(stairs([[2, 0], [0, 1]])[0], stairs([[1, 0], [0, 2]])[0])
        self.assertNotEqual(stairs([[1, 0], [0, 2]])[0], stairs([[1, 1], [0, 2]])[0])


class Answer(unittest.TestCase):
    def test_altering_the_answer_alters_nothing_else(self):
        rows = [[1, 0], [0, 1], [0, 0]]
        told = stairs(rows)
        wanted = copy.deepcopy(told)
        for table in told:
            kept = copy.deepcopy(told)
            for row in table:
                row[0] = 99
                row.append(7)
            table.append([])
            others = [other for other in told if other is not table]
            self.assertEqual(others, [one for other, one in zip(told, kept) if other is not table])
        self.assertEqual(rows, [[1, 0], [0, 1], [0, 0]])
        self.assertEqual(stairs(rows), wanted)

    def test_altering_what_was_handed_in_alters_no_answer(self):
        rows = [[1, 2], [3, 4]]
        told = stairs(rows)
        wanted = copy.deepcopy(told)
        rows[0][0] = 5
        rows.append([1, 1])
        self.assertEqual(told, wanted)

    def test_one_row_that_stands_twice(self):
        row = [2, 4]
        rows = [row, row]
        told = stairs(rows)
        self.assertEqual(told[0], [[2, 4], [0, 0]])
        self.assertTrue(no_list_twice(told))
        self.assertEqual(row, [2, 4])


if __name__ == "__main__":
    unittest.main()
