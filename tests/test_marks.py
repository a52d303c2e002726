"""crystalwords.marks."""

import itertools
import random
import unittest

from crystalwords.cells import changed
from crystalwords.deeds import behind, move
from crystalwords.errors import NotLeast
from crystalwords.kinds import kind_of
from crystalwords.marks import marks, unlike
from crystalwords.seventeen import told_group
from group_samples import NOT_LEAST, SEVENTEEN, CallCase, group_told, other_bases, whole_change
from samples import all_whole, laplace


def kept(members, under):
    """How many pairs all rows keep, but for multiples of under."""
    return sum(
        all((row[0] * p + row[1] * q - number) % under == 0
            for one in members for row, number in zip(one[0], (p, q)))
        for p in range(under) for q in range(under)
    )


def makes_a_mirror(one, reach):
    steps = itertools.product(range(-reach, reach + 1), repeat=2)
    return any(kind_of(behind(one, move((step, 1)))).word() == "mirror" for step in steps)


def marks_tried(group, reach):
    """The marks by point 31's own words; the whole moves up to a reach are tried."""
    members = group.members()
    upright = [one for one in members if laplace(one[0]) == 1]
    mirrors = [one for one in members if one not in upright and makes_a_mirror(one, reach)]
    return (len(members), len(upright), len(mirrors), kept(members, 2), kept(members, 3))


class Marks(CallCase):
    def check(self, group):
        told = self.called(marks, group)
        self.assertIs(type(told), tuple)
        self.assertEqual(len(told), 5)
        self.assertTrue(all_whole(told))
        return told

    def test_by_their_definition(self):
        chance = random.Random(90)
        for number in SEVENTEEN:
            group = told_group(number)
            self.assertEqual(self.check(group), marks_tried(group, 2))
            spot = (tuple(chance.randint(-5, 5) for k in range(2)), 7)
            for bound in (0, 1):
                other = changed(group, whole_change(chance, 2, bound, spot))
                self.assertEqual(self.check(other), marks_tried(other, 4))

    def test_no_change_alters_them(self):
        chance = random.Random(91)
        for number, (text, wanted) in SEVENTEEN.items():
            group = told_group(number)
            for way in other_bases(chance):
                with self.subTest(number=number, way=way):
                    self.assertEqual(self.check(changed(group, way)), wanted)

    def test_a_mirror_by_a_whole_move_alone(self):
        # As it stands this member slides; the whole move by -1 along y makes a mirror of it.
        for text, mirrors in (
            ("-x,y+1", 1), ("-x,y+1/2", 0), ("y+1/2,x-1/2", 1), ("y+1/2,x+1/2", 1), ("y+1/3,x+2/3", 1),
        ):
            self.assertEqual(self.check(group_told(2, text))[2], mirrors)

    def test_not_least(self):
        for d, text in NOT_LEAST:
            self.refused(NotLeast, marks, group_told(d, text))


class Unlike(CallCase):
    def test_each_pair(self):
        chance = random.Random(92)
        groups = {number: changed(told_group(number), whole_change(chance, 2, 10 ** 12)) for number in SEVENTEEN}
        for one, other in itertools.product(SEVENTEEN, SEVENTEEN):
            told = self.called(unlike, groups[one], groups[other])
            pairs = list(zip(SEVENTEEN[one][1], SEVENTEEN[other][1]))
            wanted = [(at, left, right) for at, (left, right) in enumerate(pairs) if left != right]
            if one == other:
                self.assertIsNone(told)
            else:
                self.assertIs(type(told), tuple)
                self.assertTrue(all_whole(told))
                self.assertEqual(told, wanted[0])

    def test_written_out(self):
        for one, other, wanted in (
            (1, 2, (0, 1, 2)), (2, 3, (1, 2, 1)), (3, 4, (2, 1, 0)), (4, 3, (2, 0, 1)), (3, 5, (3, 4, 2)),
            (14, 15, (4, 3, 1)), (15, 14, (4, 1, 3)), (15, 16, (1, 3, 6)), (17, 1, (0, 12, 1)), (9, 9, None),
        ):
            self.assertEqual(unlike(told_group(one), told_group(other)), wanted)

    def test_not_least(self):
        for d, text in NOT_LEAST:
            for number in (1, 2, 11):
                self.refused(NotLeast, unlike, group_told(d, text), told_group(number))
                self.refused(NotLeast, unlike, told_group(number), group_told(d, text))
            self.refused(NotLeast, unlike, group_told(d, text), group_told(d, text))


if __name__ == "__main__":
    unittest.main()
