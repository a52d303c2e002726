"""place and rest_place of crystalwords.places."""

import random
import unittest
from fractions import Fraction
from math import gcd

from crystalwords.errors import CrystalError, NoPlace
from crystalwords.places import place, rest_place


def worth(tops, under):
    return [Fraction(top, under) for top in tops]


class PlaceCase(unittest.TestCase):
    def check_form(self, told):
        self.assertIs(type(told), tuple)
        self.assertEqual(len(told), 2)
        tops, under = told
        self.assertIs(type(tops), tuple)
        for number in tops + (under,):
            self.assertIs(type(number), int)
        self.assertGreaterEqual(under, 1)
        self.assertEqual(gcd(under, *tops), 1)


def many_lists():
    chance = random.Random(4)
    for m in list(range(1, 41)) * 5:
        figures = chance.choice((1, 2, 5, 49))
        bound = 10 ** figures - 1
        common = chance.choice((1, 2, 6, 30, 10 ** 50))
        tops = [chance.choice((0, 1, 1)) * common * chance.randint(-bound, bound) for at in range(m)]
        under = chance.choice((1, -1)) * common * chance.randint(1, bound)
        yield tops, under


class Place(PlaceCase):
    def check(self, tops, under):
        kept = list(tops)
        told = place(tops, under)
        self.assertEqual(tops, kept)
        self.check_form(told)
        self.assertEqual(worth(*told), worth(tops, under))
        self.assertEqual(place(tuple(tops), under), told)
        self.assertEqual(place(told[0], told[1]), told)
        self.assertEqual(place([-top for top in tops], -under), told)

    def test_written_out(self):
        for tops, under, wanted in (
            ([1, 2], 3, ((1, 2), 3)),
            ([2, 4], 6, ((1, 2), 3)),
            ([2, 3], 6, ((2, 3), 6)),
            ([6, 4, 10], 2, ((3, 2, 5), 1)),
            ([1, 2], -3, ((-1, -2), 3)),
            ([-2, 4], -6, ((1, -2), 3)),
            ([-7], 14, ((-1,), 2)),
            ([5], 1, ((5,), 1)),
            ([5], -1, ((-5,), 1)),
            ([0, 1], 2, ((0, 1), 2)),
            ([0, 4, 0], 8, ((0, 1, 0), 2)),
            ([3, 0], -1, ((-3, 0), 1)),
        ):
            with self.subTest(tops=tops, under=under):
                self.assertEqual(place(tops, under), wanted)
                self.assertEqual(place(tuple(tops), under), wanted)
                self.check(tops, under)

    def test_noughts_alone(self):
        for m in (1, 2, 3, 40):
            for under in (1, -1, 7, -12, 10 ** 99, -(10 ** 99)):
                with self.subTest(m=m, under=under):
                    self.assertEqual(place([0] * m, under), ((0,) * m, 1))

    def test_small_ones(self):
        for one in range(-7, 8):
            for other in range(-7, 8):
                for under in list(range(-12, 0)) + list(range(1, 13)):
                    self.check([one, other], under)

    def test_one_to_forty_numbers(self):
        for tops, under in many_lists():
            with self.subTest(tops=tops, under=under):
                self.check(tops, under)

    def test_a_hundred_figures(self):
        nines = 10 ** 100 - 1
        self.assertEqual(place([nines, -nines], nines), ((1, -1), 1))
        self.assertEqual(place([nines, 0], -9), ((-(nines // 9), 0), 1))
        self.assertEqual(place([9], nines), ((1,), nines // 9))
        self.assertEqual(place([nines - 1], nines), ((nines - 1,), nines))
        self.check([nines] * 40, nines - 2)

    def test_only_a_divisor_of_all_is_taken_out(self):
        self.assertEqual(place([2, 3, 6], 6), ((2, 3, 6), 6))
        self.assertEqual(place([10, 4], 7), ((10, 4), 7))
        self.assertEqual(place([4, 8], 2), ((2, 4), 1))

    def test_the_list_handed_in_is_not_kept(self):
        tops = [1, 2]
        told = place(tops, 3)
        tops[0] = 5
        tops.append(7)
        self.assertEqual(told, ((1, 2), 3))
        self.assertEqual(place([1, 2], 3), ((1, 2), 3))

    def test_refused(self):
        for tops, under in (
            ([1, 2], 0), ((1, 2), 0), ([0], 0), ([0, 0, 0], 0), ([10 ** 99], 0), ([1] * 40, 0),
            ([], 1), ((), 1), ([], -3), ((), 10 ** 99), ([], 0), ((), 0),
        ):
            with self.subTest(tops=tops, under=under):
                kept = list(tops)
                with self.assertRaises(CrystalError) as caught:
                    place(tops, under)
                self.assertIs(type(caught.exception), NoPlace)
                self.assertEqual(list(tops), kept)


class RestPlace(PlaceCase):
    def check(self, one):
        told = rest_place(one)
        self.check_form(told)
        self.assertEqual(len(told[0]), len(one[0]))
        for rest, number in zip(worth(*told), worth(*one)):
            self.assertTrue(0 <= rest < 1)
            self.assertEqual((number - rest).denominator, 1)
        self.assertEqual(rest_place(told), told)
        for step in (1, -1, 3, -(10 ** 60)):
            tops = [top + step * at * one[1] for at, top in enumerate(one[0], 1)]
            self.assertEqual(rest_place(place(tops, one[1])), told)

    def test_written_out(self):
        for one, wanted in (
            (((1, 2), 3), ((1, 2), 3)),
            (((-1, 4), 3), ((2, 1), 3)),
            (((0, 0), 1), ((0, 0), 1)),
            (((5, -7), 1), ((0, 0), 1)),
            (((-1,), 2), ((1,), 2)),
            (((3,), 2), ((1,), 2)),
            (((2, 3), 2), ((0, 1), 2)),
            (((-6, -3, 12), 4), ((2, 1, 0), 4)),
            (((-12, 6, 1), 6), ((0, 0, 1), 6)),
            (((7, 13), 12), ((7, 1), 12)),
        ):
            with self.subTest(one=one):
                self.assertEqual(rest_place(one), wanted)
                self.check(one)

    def test_small_ones(self):
        for one in range(-9, 10):
            for other in range(-9, 10):
                for under in range(1, 9):
                    self.check(place([one, other], under))

    def test_one_to_forty_numbers(self):
        for tops, under in many_lists():
            with self.subTest(tops=tops, under=under):
                self.check(place(tops, under))

    def test_a_hundred_figures(self):
        nines = 10 ** 100 - 1
        self.assertEqual(rest_place(((nines, -nines), 2)), ((1, 1), 2))
        self.assertEqual(rest_place(((-1,), nines)), ((nines - 1,), nines))
        self.assertEqual(rest_place(((nines + 1,), nines)), ((1,), nines))

    def test_other_rests_for_places_that_do_not_differ_by_whole_numbers(self):
        self.assertNotEqual(rest_place(((1, 0), 2)), rest_place(((0, 1), 2)))
        self.assertNotEqual(rest_place(((1,), 3)), rest_place(((-1,), 3)))


if __name__ == "__main__":
    unittest.main()
