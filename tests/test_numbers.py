"""crystalwords.numbers."""

import math
import unittest
from fractions import Fraction

from crystalwords.numbers import divisor, figures, multiple, nearest

HUNDRED_NINES = 10 ** 100 - 1
LONG = (
    HUNDRED_NINES, 10 ** 99, 10 ** 99 + 1, 2 ** 332, 3 ** 209, 6 ** 128,
    int("1234567890" * 10), int("9876543210" * 10),
)


def fibonacci(steps):
    one, other = 0, 1
    for step in range(steps):
        one, other = other, one + other
    return one


class Divisor(unittest.TestCase):
    def check(self, one, other, wanted):
        for left in (one, -one):
            for right in (other, -other):
                for pair in ((left, right), (right, left)):
                    with self.subTest(pair=pair):
                        told = divisor(*pair)
                        self.assertEqual(told, wanted)
                        self.assertIs(type(told), int)

    def test_written_out(self):
        for one, other, wanted in (
            (12, 18, 6), (4, 6, 2), (7, 5, 1), (9, 3, 3), (8, 8, 8), (1, 1, 1), (1, 9, 1),
            (2, 3, 1), (100, 75, 25), (270, 192, 6), (17, 51, 17),
        ):
            self.check(one, other, wanted)

    def test_one_of_them_nought(self):
        for number in (1, 2, 9, 10, 360) + LONG:
            self.check(number, 0, number)

    def test_both_nought(self):
        self.check(0, 0, 0)

    def test_every_small_pair(self):
        for one in range(41):
            for other in range(41):
                self.check(one, other, math.gcd(one, other))

    def test_a_hundred_figures(self):
        self.assertEqual(len(str(HUNDRED_NINES)), 100)
        for one in LONG:
            for other in LONG + (1, 2, 3, 9, 7919):
                self.check(one, other, math.gcd(one, other))

    def test_a_hundred_figures_with_a_told_divisor(self):
        self.check(10 ** 50 * (10 ** 49 + 1), 10 ** 50 * 10 ** 49, 10 ** 50)
        self.check(HUNDRED_NINES, 9, 9)
        self.check(HUNDRED_NINES, HUNDRED_NINES, HUNDRED_NINES)

    def test_the_longest_way_down(self):
        # Neighbours of this row take the most steps of all numbers with so many figures.
        one, other = fibonacci(477), fibonacci(478)
        self.assertEqual(len(str(other)), 100)
        self.check(one, other, 1)
        self.check(one * 6, other * 6, 6)


class Multiple(unittest.TestCase):
    def test_least(self):
        for numbers in ([], [1], [7], [4, 6], [6, 4, 10], [2, 3, 5, 7], [12, 18, 8], [HUNDRED_NINES, 9, HUNDRED_NINES]):
            self.assertEqual(multiple(numbers), math.lcm(*numbers))


class Nearest(unittest.TestCase):
    def test_every_small_pair(self):
        for one in range(-30, 31):
            for other in list(range(-12, 0)) + list(range(1, 13)):
                with self.subTest(one=one, other=other):
                    self.assertEqual(nearest(one, other), math.floor(Fraction(one, other) + Fraction(1, 2)))

    def test_a_hundred_figures(self):
        for one in LONG:
            for other in LONG:
                self.assertLessEqual(2 * abs(one - nearest(one, other) * other), other)


class Figures(unittest.TestCase):
    def test_few_figures(self):
        for number in list(range(120)) + [10 ** k + step for k in range(3, 400) for step in (-1, 0, 1)]:
            self.assertEqual(figures(number), str(number))

    def test_more_figures_than_python_shows(self):
        for many in (4300, 4301, 8192, 20000):
            self.assertEqual(figures(10 ** many), "1" + "0" * many)
            self.assertEqual(figures(10 ** many - 1), "9" * many)
            self.assertEqual(figures(10 ** many // 3), "3" * many)


if __name__ == "__main__":
    unittest.main()
