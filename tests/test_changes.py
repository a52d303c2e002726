"""crystalwords.changes."""

import random
import unittest
from fractions import Fraction

from crystalwords.changes import back_change, change, change_behind, new_deed, new_place, old_place
from crystalwords.deeds import back, behind, deed, move, moved, still
from crystalwords.errors import NoChange, NotKept
from crystalwords.places import place
from crystalwords.texts import read, read_place, shown
from group_samples import CallCase, solved, whole_change
from samples import (
    HUNDRED_NINES, PLANE, SPACE, done, great_place, great_rows, is_deed, is_place, laplace, small_places, worth,
)


def told_change(text):
    """A change of a text: its vectors and, last, its spot."""
    spots = [read_place(word) for word in text.split()]
    return change(spots[:-1], spots[-1])


CHANGES = [told_change(text) for text in (
    "1,0 0,1 0,0", "0,1 1,0 0,0", "1,0 0,1 1/2,-1/3", "2,0 0,3 0,0", "1/2,0 0,1 0,1/4", "1/2,1/2 -1/2,1/2 0,0",
    "-1,7 3/4,1/5 5,-5/6", "1,1 0,1 0,0", "1,0 999999999,1 1/7,1/11", "-2/3,1/3 -1/3,2/3 100,-100", "-1,0 0,-1 1/2,1/2",
    "1,0,0 0,1,0 0,0,1 0,0,0", "0,0,1 1,0,0 0,1,0 1/2,1/3,1/4", "0,1/2,1/2 1/2,0,1/2 1/2,1/2,0 0,0,0",
    "-1/2,1/2,1/2 1/2,-1/2,1/2 1/2,1/2,-1/2 1/8,1/8,1/8", "2,1,0 0,-3,1 1/5,0,7 0,0,-1", "1,0,0 0,1,0 5,-9,1 0,0,1/2",
    "2/3,1/3,1/3 -1/3,1/3,1/3 -1/3,-2/3,1/3 0,0,0", "0,1,0 1,0,0 0,0,1 0,0,0",
)]


def great_changes(chance):
    for d in (2, 3):
        for trial in range(4):
            yield change([great_place(chance, d) for k in range(d)], great_place(chance, d))
        vectors = [(tuple(row), 1) for row in great_rows(chance, d)]
        yield change(vectors, great_place(chance, d))
        yield change([(vectors[0][0], HUNDRED_NINES)] + vectors[1:], vectors[0])


def all_changes():
    return CHANGES + list(great_changes(random.Random(60)))


def axes(way):
    return len(way[0])


def nothing_altered(d):
    return change([(tuple(int(i == k) for k in range(d)), 1) for i in range(d)], ((0,) * d, 1))


def lies(way, numbers):
    """Where a place with these new numbers lies, by point 19's own words."""
    vectors, spot = [worth(vector) for vector in way[0]], worth(way[1])
    return [spot[i] + sum(c * vector[i] for c, vector in zip(numbers, vectors)) for i in range(len(spot))]


class ChangeCase(CallCase):
    def check_kind(self, way, d):
        self.assertIs(type(way), tuple)
        self.assertEqual(len(way), 2)
        self.assertIs(type(way[0]), tuple)
        self.assertEqual(len(way[0]), d)
        self.assertTrue(all(is_place(spot, d) for spot in way[0]))
        self.assertTrue(is_place(way[1], d))


class Change(ChangeCase):
    def test_made_of_places(self):
        for way in all_changes():
            self.check_kind(way, axes(way))
            for vectors in (list(way[0]), tuple(way[0])):
                self.assertEqual(self.called(change, vectors, way[1]), way)

    def test_written_out(self):
        vectors = [((1, 1), 2), ((-1, 1), 2)]
        self.assertEqual(change(vectors, ((0, 1), 3)), ((((1, 1), 2), ((-1, 1), 2)), ((0, 1), 3)))

    def test_determinants_above_and_below_nought(self):
        signs = {laplace([worth(vector) for vector in way[0]]) > 0 for way in CHANGES}
        self.assertEqual(signs, {True, False})

    def test_the_list_handed_in_is_not_kept(self):
        vectors = [((1, 0), 1), ((0, 1), 2)]
        way = change(vectors, ((0, 0), 1))
        vectors[0] = ((7, 7), 1)
        vectors.append(((1, 1), 1))
        self.assertEqual(way, ((((1, 0), 1), ((0, 1), 2)), ((0, 0), 1)))

    def test_too_few_and_too_many_vectors(self):
        for d, text in ((2, "1,0 0,1 1,1"), (3, "1,0,0 0,1,0 0,0,1 1,1,1")):
            vectors = [read_place(word) for word in text.split()]
            for count in [count for count in range(d + 2) if count != d]:
                for size in (2, 3):
                    self.refused(NoChange, change, vectors[:count], ((0,) * size, 1))
                    self.refused(NoChange, change, tuple(vectors[:count]), ((0,) * size, 1))

    def test_determinant_nought(self):
        for text in (
            "0,0 0,0 0,0", "1,0 0,0 0,0", "1,0 1,0 0,0", "1/2,1/3 1,2/3 0,0", "1,2 -2,-4 1/2,0", "3,5 3/7,5/7 0,0",
            "1,0,0 0,1,0 1,1,0 0,0,0", "0,0,0 0,1,0 0,0,1 0,0,0", "1/2,1/3,1/5 1/2,0,0 0,1/3,1/5 1,1,1",
            "1,2,3 4,5,6 7,8,9 0,0,0",
        ):
            spots = [read_place(word) for word in text.split()]
            self.refused(NoChange, change, spots[:-1], spots[-1])
        great = great_place(random.Random(61), 2)
        self.refused(NoChange, change, [great, place([3 * top for top in great[0]], great[1] * 7)], great)

    def test_unlike_axes(self):
        for vectors, spot in (
            (["1,0", "0,1,0"], "0,0"), (["1,0,0", "0,1"], "0,0"), (["1,0,0", "0,1,0"], "0,0"),
            (["1,0", "0,1"], "0,0,0"),
            (["1,0,0", "0,1,0", "0,0"], "0,0,0"), (["1,0", "0,1", "1,1"], "0,0,0"),
            (["1,0,0", "0,1,0", "0,0,1"], "0,0"),
            (["1,0,0", "0,1,0"], "0,0,0"), (["1,0", "0,1", "1,1"], "0,0"),
        ):
            self.refused(NoChange, change, [read_place(word) for word in vectors], read_place(spot))

    def test_one_axis_four_and_five(self):
        for d in (1, 4, 5):
            vectors = [(tuple(int(i == k) for k in range(d)), 1) for i in range(d)]
            self.refused(NoChange, change, vectors, ((0,) * d, 1))
            self.refused(NoChange, change, vectors, ((0, 0), 1))
            self.refused(NoChange, change, vectors[:2], ((0,) * d, 1))
            self.refused(NoChange, change, vectors[:3], ((0,) * d, 1))
        self.refused(NoChange, change, [((1,), 1), ((2,), 1)], ((0, 0), 1))
        self.refused(NoChange, change, [], ((0, 0), 1))
        self.refused(NoChange, change, (), ((0,), 1))


class Places(ChangeCase):
    def test_old_places_by_their_definition(self):
        chance = random.Random(62)
        for way in all_changes():
            d = axes(way)
            for spot in list(small_places(d)) + [great_place(chance, d)]:
                told = self.called(old_place, spot, way)
                self.assertTrue(is_place(told, d))
                self.assertEqual(worth(told), lies(way, worth(spot)))

    def test_new_places_by_their_definition(self):
        chance = random.Random(63)
        for way in all_changes():
            d = axes(way)
            for spot in list(small_places(d)) + [great_place(chance, d)]:
                told = self.called(new_place, spot, way)
                self.assertTrue(is_place(told, d))
                self.assertEqual(lies(way, worth(told)), worth(spot))

    def test_there_and_back(self):
        for way in all_changes():
            for spot in small_places(axes(way)):
                self.assertEqual(new_place(old_place(spot, way), way), spot)
                self.assertEqual(old_place(new_place(spot, way), way), spot)

    def test_written_out(self):
        way = told_change("1/2,1/2 -1/2,1/2 0,1/3")
        self.assertEqual(old_place(read_place("1,1"), way), read_place("0,4/3"))
        self.assertEqual(new_place(read_place("0,4/3"), way), read_place("1,1"))
        self.assertEqual(old_place(read_place("1,0"), way), read_place("1/2,5/6"))

    def test_unlike_axes(self):
        for way in CHANGES:
            for size in (1, 2, 3, 4):
                if size != axes(way):
                    self.refused(NoChange, old_place, ((1,) * size, 2), way)
                    self.refused(NoChange, new_place, ((1,) * size, 2), way)


class Ways(ChangeCase):
    def test_the_change_back(self):
        for way in all_changes():
            d = axes(way)
            told = self.called(back_change, way)
            self.check_kind(told, d)
            self.assertEqual(back_change(told), way)
            for spot in small_places(d):
                self.assertEqual(new_place(spot, told), old_place(spot, way))
                self.assertEqual(old_place(spot, told), new_place(spot, way))

    def test_a_change_behind_its_way_back_alters_nothing(self):
        for way in all_changes():
            self.assertEqual(change_behind(way, back_change(way)), nothing_altered(axes(way)))
            self.assertEqual(change_behind(back_change(way), way), nothing_altered(axes(way)))
            self.assertEqual(change_behind(way, nothing_altered(axes(way))), way)
            self.assertEqual(change_behind(nothing_altered(axes(way)), way), way)

    def test_one_change_and_then_another_one(self):
        ways = all_changes()
        for one in ways[::2]:
            for other in [way for way in ways if axes(way) == axes(one)]:
                told = self.called(change_behind, one, other)
                self.check_kind(told, axes(one))
                for spot in list(small_places(axes(one)))[:6:2]:
                    self.assertEqual(old_place(spot, told), old_place(old_place(spot, other), one))
                    self.assertEqual(new_place(spot, told), new_place(new_place(spot, one), other))

    def test_written_out(self):
        one, other = told_change("2,0 0,1 1,0"), told_change("1,1 0,1 0,1")
        self.assertEqual(change_behind(one, other), told_change("2,1 0,1 1,1"))
        self.assertEqual(change_behind(other, one), told_change("2,2 0,1 1,2"))
        self.assertEqual(back_change(one), told_change("1/2,0 0,1 -1/2,0"))

    def test_unlike_axes(self):
        for one in CHANGES:
            for other in CHANGES:
                if axes(one) != axes(other):
                    self.refused(NoChange, change_behind, one, other)


def rows_there(rows, way):
    """The rows, in fractions, of what takes new numbers as rows take old ones."""
    vectors = [worth(vector) for vector in way[0]]
    table = [[vector[i] for vector in vectors] for i in range(len(vectors))]
    columns = [
        solved(table, [sum(row[k] * vector[k] for k in range(len(row))) for row in rows])
        for vector in vectors
    ]
    return [[column[i] for column in columns] for i in range(len(columns))]


def deeds_to_try(chance, d):
    for told in (PLANE if d == 2 else SPACE).values():
        for rows in told:
            yield deed(rows, [chance.randint(-9, 9) for k in range(d)], chance.randint(1, 9))


class Deeds(ChangeCase):
    def check(self, one, way):
        """Whether the deed is kept; it is told rightly then, and refused else."""
        there = rows_there(one[0], way)
        if not all(number.denominator == 1 for row in there for number in row):
            self.refused(NotKept, new_deed, one, way)
            return False
        told = self.called(new_deed, one, way)
        self.assertTrue(is_deed(told, axes(way)))
        self.assertEqual([list(row) for row in told[0]], there)
        for spot in list(small_places(axes(way)))[::4]:
            self.assertEqual(lies(way, done(told, worth(spot))), done(one, lies(way, worth(spot))))
            self.assertEqual(new_place(moved(one, spot), way), moved(told, new_place(spot, way)))
        return True

    def test_by_its_definition(self):
        chance = random.Random(64)
        kept = [self.check(one, way) for way in all_changes() for one in deeds_to_try(chance, axes(way))]
        self.assertGreater(kept.count(True), 80)
        self.assertGreater(kept.count(False), 80)

    def test_whole_vectors_keep_all(self):
        chance = random.Random(65)
        for d in (2, 3):
            for bound in (1, 4, 10 ** 20):
                way = whole_change(chance, d, bound)
                for one in deeds_to_try(chance, d):
                    self.assertTrue(self.check(one, way))
                    self.assertEqual(new_deed(new_deed(one, way), back_change(way)), one)

    def test_moves_and_the_still_deed_are_kept_by_all(self):
        for way in all_changes():
            d = axes(way)
            self.assertEqual(new_deed(still(d), way), still(d))
            for vector, unit in zip(way[0], nothing_altered(d)[0]):
                self.assertEqual(new_deed(move(vector), way), move(unit))

    def test_one_behind_the_other(self):
        way = told_change("1/2,1/2 -1/2,1/2 1/3,0")
        one, other = read("-y+1/2,x"), read("y,x+1/4")
        self.assertEqual(new_deed(behind(one, other), way), behind(new_deed(one, way), new_deed(other, way)))
        self.assertEqual(new_deed(back(one), way), back(new_deed(one, way)))

    def test_written_out(self):
        self.assertEqual(shown(new_deed(read("y,x"), told_change("1/2,1/2 -1/2,1/2 0,0"))), "x,-y")
        self.assertEqual(shown(new_deed(read("-x,-y"), told_change("1,0 0,1 1/2,1/3"))), "-x-1,-y-2/3")
        self.assertEqual(shown(new_deed(read("-x,y+1/2"), told_change("0,1 1,0 0,0"))), "x+1/2,-y")
        self.assertEqual(shown(new_deed(read("x,y,-z+1/2"), told_change("1,0,0 0,0,1 0,1,0 0,0,1/4"))), "x,-y,z")

    def test_not_kept(self):
        for text, way in (
            ("-y,x", "2,0 0,1 0,0"), ("y,x", "1,0 0,1/2 0,0"), ("-y,x-y", "1,0 1/2,1/2 0,0"), ("-x,y", "1,0 1/3,1 0,0"),
            ("z,x,y", "2,0,0 0,1,0 0,0,1 0,0,0"), ("-y,x,z", "1,0,0 0,1/3,0 0,0,1 1/2,1/2,0"),
        ):
            self.refused(NotKept, new_deed, read(text), told_change(way))

    def test_unlike_axes(self):
        for way in CHANGES:
            one = read("-y,x" if axes(way) == 3 else "z,x,y")
            self.refused(NoChange, new_deed, one, way)
            self.refused(NoChange, new_deed, still(len(one[0])), way)

    def test_half_and_double(self):
        way = told_change("2,0 0,1/2 0,0")
        self.assertEqual(worth(old_place(read_place("1,1"), way)), [Fraction(2), Fraction(1, 2)])
        self.assertEqual(shown(new_deed(read("x+1,y+1"), way)), "x+1/2,y+2")


if __name__ == "__main__":
    unittest.main()
