"""crystalwords.deeds."""

import copy
import random
import unittest
from fractions import Fraction

from crystalwords.deeds import again, back, behind, deed, move, moved, rest, still
from crystalwords.errors import CrystalError, NoDeed, NoNumber
from samples import (
    HUNDRED_NINES, ROWS, all_whole, done, frozen, great_place, great_rows, is_deed, is_place, small_places, thawed,
    unimodular, worth,
)


def some_deeds(d, seed=5):
    """Deeds of d axes: with plain rows, with others, with great numbers."""
    chance = random.Random(seed)
    told = [rows for rows in ROWS if len(rows) == d]
    told += [frozen(unimodular(chance, d, 4)[0]) for trial in range(8)]
    places = list(small_places(d))
    deeds = [(rows,) + chance.choice(places) for rows in told]
    return deeds + [(frozen(great_rows(chance, d)),) + great_place(chance, d) for trial in range(3)]


class DeedCase(unittest.TestCase):
    def refused(self, wanted, call, *handed):
        kept = copy.deepcopy(handed)
        with self.assertRaises(CrystalError) as caught:
            call(*handed)
        self.assertIs(type(caught.exception), wanted)
        self.assertEqual(handed, kept)


class Deed(DeedCase):
    def check(self, rows, tops, under):
        kept = copy.deepcopy((rows, tops))
        told = deed(rows, tops, under)
        self.assertEqual((rows, tops), kept)
        self.assertTrue(is_deed(told, len(rows)))
        self.assertEqual(told[0], frozen(rows))
        self.assertEqual(worth(told[1:]), [Fraction(top, under) for top in tops])
        self.assertEqual(deed(thawed(rows), thawed(tops), under), told)
        self.assertEqual(deed(frozen(rows), frozen(tops), under), told)
        self.assertEqual(deed(list(frozen(rows)), tops, under), told)
        self.assertEqual(deed(*told), told)
        self.assertEqual(deed(rows, [-top for top in tops], -under), told)

    def test_written_out(self):
        self.assertEqual(deed([[1, 0], [0, 1]], [0, 0], 1), (((1, 0), (0, 1)), (0, 0), 1))
        self.assertEqual(deed([[1, 0], [0, 1]], [0, 0], -7), (((1, 0), (0, 1)), (0, 0), 1))
        self.assertEqual(deed([[0, -1], [1, -1]], [2, 4], 6), (((0, -1), (1, -1)), (1, 2), 3))
        self.assertEqual(deed([[0, 1], [1, 0]], [2, -3], -6), (((0, 1), (1, 0)), (-2, 3), 6))
        self.assertEqual(
            deed([[0, -1, 0], [1, -1, 0], [0, 0, 1]], [0, 0, 10], 30),
            (((0, -1, 0), (1, -1, 0), (0, 0, 1)), (0, 0, 1), 3),
        )

    def test_plane_and_space(self):
        for rows in ROWS:
            for tops, under in small_places(len(rows)):
                for factor in (1, -1, 6, -10):
                    self.check(thawed(rows), [factor * top for top in tops], factor * under)

    def test_determinants_one_and_minus_one(self):
        found = {deed(rows, [1] * len(rows), 2) for rows in ROWS}
        self.assertEqual(len(found), len(ROWS))

    def test_great_numbers(self):
        chance = random.Random(6)
        for d in (2, 3):
            for trial in range(10):
                rows = great_rows(chance, d)
                tops, under = great_place(chance, d)
                self.check(rows, list(tops), under)
                self.check(rows, [HUNDRED_NINES] * d, -HUNDRED_NINES)
        nines = HUNDRED_NINES
        self.check([[nines, nines - 1], [nines + 1, nines]], [nines, 9], nines)
        self.check([[nines + 1, nines], [nines, nines - 1]], [nines, 9], -nines)

    def test_the_lists_handed_in_are_not_kept(self):
        rows, tops = [[1, 0], [0, 1]], [1, 2]
        told = deed(rows, tops, 3)
        rows[0][0] = 5
        rows.append([])
        tops[0] = 9
        self.assertEqual(told, (((1, 0), (0, 1)), (1, 2), 3))

    def test_refused(self):
        unit = [[1, 0], [0, 1]]
        cube = [[1, 0, 0], [0, 1, 0], [0, 0, 1]]
        four = [[int(i == k) for k in range(4)] for i in range(4)]
        for rows, tops, under in (
            ([], [], 1), ([], [0, 0], 1), ([], [], 0), ([[1]], [0], 1), ([[]], [0], 1), ([[-1]], [1], 2),
            (four, [0, 0, 0, 0], 1), (four, [0, 0, 0], 1), ([[], []], [0, 0], 1), ([[], [], []], [0, 0, 0], 1),
            ([[1, 0, 0], [0, 1, 0]], [0, 0], 1), ([[1, 0], [0, 1], [0, 0]], [0, 0], 1),
            ([[1, 0], [0, 1, 0]], [0, 0], 1), ([[1, 0], [0]], [0, 0], 1), ([[1], [0, 1]], [0, 0], 1),
            ([[1, 0], [0, 1], [0, 0, 1]], [0, 0, 0], 1), ([[1, 0, 0], [0, 1, 0], [0, 0, 1, 0]], [0, 0, 0], 1),
            (unit, [], 1), (unit, [0], 1), (unit, [0, 0, 0], 1), (cube, [0, 0], 1), (cube, [0, 0, 0, 0], 1),
            (cube, [], 1),
            ([[0, 0], [0, 0]], [0, 0], 1), ([[2, 0], [0, 1]], [0, 0], 1), ([[1, 2], [3, 4]], [0, 0], 1),
            ([[1, 1], [1, 1]], [0, 0], 1), ([[1, 2], [2, 1]], [0, 0], 1), ([[3, 0], [0, 1]], [0, 0], 1),
            ([[2, 0, 0], [0, 1, 0], [0, 0, 1]], [0, 0, 0], 1), ([[1, 2, 3], [4, 5, 6], [7, 8, 9]], [0, 0, 0], 1),
            ([[-1, 0, 0], [0, -1, 0], [0, 0, 2]], [0, 0, 0], 1),
            ([[HUNDRED_NINES, HUNDRED_NINES - 1], [HUNDRED_NINES, HUNDRED_NINES]], [0, 0], 1),
            (unit, [0, 0], 0), (unit, [1, 2], 0), (cube, [1, 2, 3], 0), ([[2, 0], [0, 1]], [0, 0], 0),
        ):
            with self.subTest(rows=rows, tops=tops, under=under):
                self.refused(NoDeed, deed, rows, tops, under)
                self.refused(NoDeed, deed, frozen(rows), frozen(tops), under)


class StillAndMove(DeedCase):
    def test_still(self):
        self.assertEqual(still(2), (((1, 0), (0, 1)), (0, 0), 1))
        self.assertEqual(still(3), (((1, 0, 0), (0, 1, 0), (0, 0, 1)), (0, 0, 0), 1))
        for d in (2, 3):
            self.assertTrue(is_deed(still(d), d))
            for spot in small_places(d):
                self.assertEqual(moved(still(d), spot), spot)

    def test_move(self):
        for d in (2, 3):
            for spot in list(small_places(d)) + [great_place(random.Random(7), d)]:
                told = move(spot)
                self.assertEqual(told, (still(d)[0],) + spot)
                self.assertTrue(is_deed(told, d))
                self.assertEqual(moved(told, ((0,) * d, 1)), spot)
        self.assertEqual(move(((0, 0), 1)), still(2))


class Moved(unittest.TestCase):
    def test_written_out(self):
        turn = (((0, -1), (1, -1)), (0, 0), 1)
        self.assertEqual(moved(turn, ((1, 0), 1)), ((0, 1), 1))
        self.assertEqual(moved(turn, ((1, 2), 3)), ((-2, -1), 3))
        half = (((-1, 0), (0, 1)), (0, 1), 2)
        self.assertEqual(moved(half, ((1, 1), 2)), ((-1, 2), 2))
        self.assertEqual(moved(half, ((0, 1), 2)), ((0, 1), 1))
        self.assertEqual(moved(half, ((1, 1), 3)), ((-2, 5), 6))

    def test_by_its_words(self):
        chance = random.Random(8)
        for d in (2, 3):
            for one in some_deeds(d):
                for spot in list(small_places(d)) + [great_place(chance, d)]:
                    told = moved(one, spot)
                    self.assertTrue(is_place(told, d))
                    self.assertEqual(worth(told), done(one, worth(spot)))


class Behind(unittest.TestCase):
    def test_written_out(self):
        right = (((1, 0), (0, 1)), (1, 0), 2)
        turn = (((0, -1), (1, 0)), (0, 0), 1)
        self.assertEqual(behind(right, turn), (((0, -1), (1, 0)), (0, 1), 2))
        self.assertEqual(behind(turn, right), (((0, -1), (1, 0)), (1, 0), 2))

    def test_first_the_one_then_the_other(self):
        for d in (2, 3):
            deeds = some_deeds(d)
            for one in deeds:
                for other in deeds:
                    told = behind(one, other)
                    self.assertTrue(is_deed(told, d))
                    for spot in (((0,) * d, 1), (tuple(range(1, d + 1)), 7), ((5,) + (-3,) * (d - 1), 4)):
                        self.assertEqual(moved(told, spot), moved(other, moved(one, spot)))

    def test_the_still_deed_alters_nothing(self):
        for d in (2, 3):
            for one in some_deeds(d):
                self.assertEqual(behind(one, still(d)), one)
                self.assertEqual(behind(still(d), one), one)

    def test_three_in_a_row(self):
        for d in (2, 3):
            deeds = some_deeds(d)[::3]
            for one in deeds:
                for other in deeds:
                    for third in deeds:
                        self.assertEqual(behind(behind(one, other), third), behind(one, behind(other, third)))


class Back(unittest.TestCase):
    def test_written_out(self):
        self.assertEqual(back((((0, -1), (1, -1)), (1, 0), 3)), (((-1, 1), (-1, 0)), (1, 1), 3))
        self.assertEqual(back((((1, 0), (0, 1)), (1, -2), 3)), (((1, 0), (0, 1)), (-1, 2), 3))

    def test_before_and_behind_come_to_the_still_deed(self):
        for d in (2, 3):
            for one in some_deeds(d):
                told = back(one)
                self.assertTrue(is_deed(told, d))
                self.assertEqual(behind(one, told), still(d))
                self.assertEqual(behind(told, one), still(d))
                self.assertEqual(back(told), one)

    def test_it_undoes_what_was_done(self):
        for d in (2, 3):
            for one in some_deeds(d):
                for spot in small_places(d):
                    self.assertEqual(moved(back(one), moved(one, spot)), spot)


class Again(DeedCase):
    def test_each_number_of_times(self):
        for d in (2, 3):
            for one in some_deeds(d)[::2]:
                forth, undone = still(d), still(d)
                for number in range(201):
                    if number < 20 or number % 37 == 0 or number > 197:
                        self.assertEqual(again(one, number), forth)
                        self.assertEqual(again(one, -number), undone)
                    forth, undone = behind(forth, one), behind(undone, back(one))

    def test_edges(self):
        for d in (2, 3):
            for one in some_deeds(d):
                self.assertEqual(again(one, 0), still(d))
                self.assertEqual(again(one, 1), one)
                self.assertEqual(again(one, -1), back(one))
                self.assertEqual(again(one, 2), behind(one, one))
                most, least = again(one, 200), again(one, -200)
                self.assertTrue(is_deed(most, d) and is_deed(least, d))
                self.assertEqual(behind(most, least), still(d))
                self.assertEqual(behind(again(one, 199), one), most)

    def test_what_was_told_may_be_handed_in_again(self):
        one = (((HUNDRED_NINES, HUNDRED_NINES - 1), (HUNDRED_NINES + 1, HUNDRED_NINES)), (1, 2), 3)
        much = again(one, 200)
        self.assertGreater(much[0][0][0], 10 ** 19000)
        self.assertEqual(behind(much, back(much)), still(2))
        self.assertEqual(again(much, -1), again(one, -200))
        self.assertTrue(all_whole(rest(much)))

    def test_refused(self):
        for d in (2, 3):
            for one in (still(d), some_deeds(d)[3]):
                for number in (201, -201, 202, -1000, 10 ** 99, -(10 ** 99)):
                    with self.subTest(one=one, number=number):
                        self.refused(NoNumber, again, one, number)


class Rest(unittest.TestCase):
    def test_written_out(self):
        self.assertEqual(rest((((0, 1), (1, 0)), (-1, 5), 2)), (((0, 1), (1, 0)), (1, 1), 2))
        self.assertEqual(rest((((0, 1), (1, 0)), (-3, 5), 1)), (((0, 1), (1, 0)), (0, 0), 1))

    def test_same_rows_and_numbers_from_nought_to_below_one(self):
        for d in (2, 3):
            for one in some_deeds(d):
                told = rest(one)
                self.assertTrue(is_deed(told, d))
                self.assertEqual(told[0], one[0])
                self.assertTrue(all(0 <= number < 1 for number in worth(told[1:])))
                for new, old in zip(worth(told[1:]), worth(one[1:])):
                    self.assertEqual((new - old).denominator, 1)
                self.assertEqual(rest(told), told)

    def test_the_same_just_where_a_whole_move_lies_between(self):
        for d in (2, 3):
            for one in some_deeds(d):
                for steps in ((0,) * d, (1,) * d, (-4,) + (10 ** 60,) * (d - 1)):
                    self.assertEqual(rest(behind(one, move((steps, 1)))), rest(one))
                    self.assertEqual(rest(behind(move((steps, 1)), one)), rest(one))
                for steps in ((1,) + (0,) * (d - 1), (1,) * d):
                    self.assertNotEqual(rest(behind(one, move((steps, 2)))), rest(one))


if __name__ == "__main__":
    unittest.main()
