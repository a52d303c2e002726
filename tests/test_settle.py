"""crystalwords.settle."""

import itertools
import random
import unittest

from crystalwords.cells import changed, least_cell
from crystalwords.changes import back_change, change, new_deed
from crystalwords.deeds import deed, rest
from crystalwords.errors import NotLeast, TooMany
from crystalwords.groups import Group
from crystalwords.marks import marks, unlike
from crystalwords.seventeen import told_group
from crystalwords.settle import same, settle, small_bases
from group_samples import NOT_LEAST, PLANE_GROUPS, SEVENTEEN, CallCase, group_told, makers_of, other_bases, whole_change
from samples import is_place, laplace


class SettleCase(CallCase):
    def check_whole(self, way):
        """The change is one with whole vectors of determinant 1 or -1."""
        self.assertIs(type(way), tuple)
        self.assertEqual(change(list(way[0]), way[1]), way)
        self.assertTrue(all(is_place(vector, 2) and vector[1] == 1 for vector in way[0]))
        self.assertIn(laplace([vector[0] for vector in way[0]]), (1, -1))

    def check(self, group):
        told = self.called(settle, group)
        self.assertIs(type(told), tuple)
        self.assertEqual(len(told), 2)
        number, way = told
        self.assertIs(type(number), int)
        self.assertIn(number, SEVENTEEN)
        self.check_whole(way)
        there = sorted(rest(new_deed(member, way)) for member in group.members())
        self.assertEqual(there, group_told(2, SEVENTEEN[number][0]).members())
        self.assertEqual(marks(group), SEVENTEEN[number][1])
        return number


class Settle(SettleCase):
    def test_each_of_the_seventeen(self):
        for number in SEVENTEEN:
            self.assertEqual(self.check(told_group(number)), number)

    def test_in_many_other_bases(self):
        chance = random.Random(93)
        for number in SEVENTEEN:
            for way in other_bases(chance):
                with self.subTest(number=number, way=way):
                    self.assertEqual(self.check(changed(told_group(number), way)), number)

    def test_all_bases_of_small_numbers(self):
        bases = [rows for rows in itertools.product(itertools.product((-2, -1, 0, 1, 2), repeat=2), repeat=2)
                 if laplace(rows) in (1, -1)]
        chance = random.Random(94)
        for number in SEVENTEEN:
            for rows in chance.sample(bases, 12):
                spot = (chance.randint(-3, 3), 1), 4
                way = change([(tuple(row), 1) for row in rows], spot)
                self.assertEqual(self.check(changed(told_group(number), way)), number)

    def test_other_makers_in_their_least_cell(self):
        for text, count in PLANE_GROUPS:
            group = group_told(2, text)
            with self.subTest(text=text):
                self.check(changed(group, least_cell(group)))

    def test_written_out(self):
        for text, wanted in (
            ("x,-y", 3), ("x+1/2,-y", 4), ("-y,-x", 5), ("x,-y+1/2", 3), ("y+1/2,x+1/2", 5), ("-x+1/3,-y+1/5", 2),
            ("-x,-y x,-y+1/2", 7), ("-x,y x,-y+1/2", 6), ("-x,-y x+1/2,-y+1/2", 8), ("y,-x -y,-x", 11), ("-x+y,-x", 13),
            ("-y,x y+1/2,x+1/2", 12), ("-y,x-y -x+y,y", 14), ("-y,x-y x-y,-y", 15), ("-y,x-y x,x-y", 14),
            ("y,-x+y x,x-y", 17), ("-x+1/2,y+1/2 x+1/2,-y+1/2", 8), ("-x,y+1/2 x,-y+1/2", 7), ("-x,y+1/2 x,-y", 7),
            ("-x+y,y", 5), ("-x+y,y+1/2", 4), ("-x,x+y", 5), ("-x+2y,y", 3), ("-x+2y,y+1/2", 4),
        ):
            group = group_told(2, text)
            group = changed(group, least_cell(group))
            with self.subTest(text=text):
                self.assertEqual(self.check(group), wanted)

    def test_drawn_makers(self):
        chance = random.Random(95)
        turns = [member[0] for number in (11, 17) for member in told_group(number).members()]
        met = set()
        for trial in range(400):
            steps = [[chance.randint(0, 1) for axis in range(2)] for k in range(2)]
            makers = [deed(chance.choice(turns), tops, 2) for tops in steps]
            try:
                group = Group(2, makers)
            except TooMany:
                continue
            group = changed(group, least_cell(group))
            met.add(self.check(changed(group, whole_change(chance, 2, 3))))
        self.assertGreater(len(met), 13)

    def test_not_least(self):
        for d, text in NOT_LEAST:
            self.refused(NotLeast, settle, group_told(d, text))

    def test_forty_bases(self):
        told = small_bases()
        self.assertEqual(len(told), 40)
        self.assertEqual(len({tuple(map(tuple, rows)) for rows in told}), 40)


class Same(SettleCase):
    def test_each_pair(self):
        chance = random.Random(96)
        for one, other in itertools.product(SEVENTEEN, SEVENTEEN):
            first = changed(told_group(one), whole_change(chance, 2, 50))
            second = changed(told_group(other), whole_change(chance, 2, 10 ** 6))
            way = self.called(same, first, second)
            with self.subTest(one=one, other=other):
                self.assertEqual(way is None, one != other)
                self.assertEqual(unlike(first, second) is None, one == other)
                if one == other:
                    self.check_leads(first, second, way)
                    self.check_leads(second, first, same(second, first))

    def check_leads(self, first, second, way):
        self.check_whole(way)
        self.assertEqual(sorted(rest(new_deed(member, way)) for member in first.members()), second.members())
        self.assertEqual(changed(first, way).members(), second.members())
        self.assertEqual(changed(second, back_change(way)).members(), first.members())

    def test_with_itself(self):
        for number in SEVENTEEN:
            group = told_group(number)
            self.check_leads(group, group, same(group, group))

    def test_great_numbers(self):
        chance = random.Random(97)
        for number in SEVENTEEN:
            ways = list(other_bases(chance))
            first, second = changed(told_group(number), ways[8]), changed(told_group(number), ways[10])
            self.check_leads(first, second, same(first, second))

    def test_not_least(self):
        for d, text in NOT_LEAST:
            for number in (1, 2, 11):
                self.refused(NotLeast, same, group_told(d, text), told_group(number))
                self.refused(NotLeast, same, told_group(number), group_told(d, text))
            self.refused(NotLeast, same, group_told(d, text), group_told(d, text))

    def test_makers_of_other_sorts(self):
        one, other = Group(2, makers_of("-x,y")), Group(2, makers_of("x,-y+1/3 x,y"))
        self.check_leads(one, other, same(one, other))


if __name__ == "__main__":
    unittest.main()
