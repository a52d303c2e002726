"""crystalwords.parts."""

import itertools
import random
import unittest

from crystalwords.cells import changed
from crystalwords.deeds import behind, move, rest
from crystalwords.errors import NoDeed, NoNumber, NotWithin, TooMany
from crystalwords.groups import Group
from crystalwords.parts import both, common, halves, lacks, shares
from crystalwords.texts import shown
from group_samples import GROUPS, CallCase, all_groups, group_told, makers_of, state, whole_change
from samples import all_whole, no_list_twice

# A greater group and one that lies in it.
WITHIN = (
    (2, "", ""), (2, "-y,x", ""), (2, "-y,x", "-x,-y"), (2, "-y,x", "-y,x"), (2, "-y,x -x,y", "-x,y"),
    (2, "-y,x -x,y", "y,x"),
    (2, "-y,x -x,y", "-y,x"), (2, "x-y,x y,x", "-y,x-y"), (2, "x-y,x y,x", "y,x"), (2, "x-y,x y,x", "-x,-y"),
    (2, "x+1/10,y x,y+1/20", "x+1/2,y+1/4"), (2, "-y,x -x,y x+1/5,y", "-x,y+2/5"), (2, "-x,y+1/4", "x,y+1/2"),
    (2, "-y,x -x+1/2,y+1/2", "-x+1/2,y+1/2"), (3, "-y,x,z z,x,y", "z,x,y"), (3, "-y,x,z z,x,y -x,-y,-z", "-y,x,z"),
    (3, "-y,x,z z,x,y -x,-y,-z x+1/2,y+1/2,z x,y+1/2,z+1/2", "-x+1/2,y+1/2,z"), (3, "-y,x,z+1/4", "-x,-y,z+1/2"),
    (3, "-x+1/2,-y,z+1/2 -x,y+1/2,-z+1/2 z,x,y", "z,x,y"),
)
# Two groups of which neither lies in the other one.
BESIDE = (
    (2, "-x,y", "x,-y"), (2, "-y,x", "-y,x-y"), (2, "x+1/2,y", "x,y+1/2"), (2, "-x,-y", "-x+1/2,-y"),
    (2, "-x,y", "-x,y+1/2"),
    (2, "-y,x -x,y", "-y,x -x+1/2,y+1/2"), (2, "x+1/6,y", "x+1/4,y"), (3, "-y,x,z", "-y,x,z+1/2"),
    (3, "z,x,y", "-x,-y,z"),
    (2, "x-y,x", "-y,x -x,y"), (3, "-y,x,z z,x,y", "-x,-y,-z z,x,y"),
)
UNLIKE_AXES = (("", ""), ("-y,x", "z,x,y"), ("-x,y", ""), ("", "-x,-y,-z"), ("x+1/2,y", "x+1/2,y,z"))


def first_missing(one, other):
    known = set(other.members())
    return next((number for number, member in enumerate(one.members()) if member not in known), None)


class Lacks(CallCase):
    def check(self, one, other):
        told = self.called(lacks, one, other)
        self.assertEqual(told, first_missing(one, other))
        self.assertTrue(told is None or type(told) is int)
        return told

    def test_in_itself(self):
        for text, group in all_groups():
            self.assertIsNone(self.check(group, group))
            self.assertIsNone(self.check(group, Group(group.axes(), group.members()[:40] + group.makers())))

    def test_in_a_greater_one(self):
        for d, great, less in WITHIN:
            great, less = group_told(d, great), group_told(d, less)
            self.assertIsNone(self.check(less, great))
            if len(less.members()) < len(great.members()):
                self.assertIsNotNone(self.check(great, less))

    def test_beside_another_one(self):
        for d, one, other in BESIDE:
            self.assertIsNotNone(self.check(group_told(d, one), group_told(d, other)))
            self.assertIsNotNone(self.check(group_told(d, other), group_told(d, one)))

    def test_all_pairs(self):
        groups = [group for text, group in all_groups()][::3]
        for one, other in itertools.product(groups, groups):
            if one.axes() == other.axes():
                self.check(one, other)

    def test_written_out(self):
        self.assertEqual(lacks(group_told(2, "-y,x"), group_told(2, "-x,-y")), 1)
        self.assertEqual(lacks(group_told(2, "-y,x"), group_told(2, "")), 0)
        self.assertEqual(lacks(group_told(2, "x+1/2,y"), group_told(2, "")), 1)
        self.assertIsNone(lacks(group_told(2, ""), group_told(2, "x+1/2,y")))

    def test_unlike_axes(self):
        for plane, space in UNLIKE_AXES:
            self.refused(NoDeed, lacks, group_told(2, plane), group_told(3, space))
            self.refused(NoDeed, lacks, group_told(3, space), group_told(2, plane))


class Common(CallCase):
    def check(self, one, other):
        told = self.called(common, one, other)
        self.assertIsInstance(told, Group)
        self.assertEqual(told.axes(), one.axes())
        self.assertEqual(told.members(), sorted(set(one.members()) & set(other.members())))
        self.assertEqual(Group(told.axes(), told.makers()).members(), told.members())
        return told

    def test_all_pairs(self):
        groups = [group for text, group in all_groups()][::2]
        for one, other in itertools.product(groups, groups):
            if one.axes() == other.axes():
                self.check(one, other)

    def test_within_and_beside(self):
        for d, one, other in WITHIN + BESIDE:
            self.check(group_told(d, one), group_told(d, other))
            self.check(group_told(d, other), group_told(d, one))

    def test_written_out(self):
        told = common(group_told(2, "-y,x -x,y"), group_told(2, "x-y,x y,x"))
        self.assertEqual([shown(one) for one in told.members()], ["-x,-y", "-y,-x", "y,x", "x,y"])
        told = common(group_told(2, "-x,y"), group_told(2, "x,-y"))
        self.assertEqual([shown(one) for one in told.members()], ["x,y"])

    def test_unlike_axes(self):
        for plane, space in UNLIKE_AXES:
            self.refused(NoDeed, common, group_told(2, plane), group_told(3, space))
            self.refused(NoDeed, common, group_told(3, space), group_told(2, plane))

    def test_altering_what_was_told_alters_nothing(self):
        one, other = group_told(2, "-y,x -x,y"), group_told(2, "x-y,x y,x")
        wanted = state((one, other, common(one, other)))
        told = common(one, other)
        told.makers().append(1)
        told.members().clear()
        self.assertEqual(state((one, other, told)), wanted)


class Both(CallCase):
    def test_makers_of_both_the_ones_first(self):
        for d, one, other in WITHIN + BESIDE[2:8]:
            with self.subTest(one=one, other=other):
                told = self.called(both, group_told(d, one), group_told(d, other))
                wanted = group_told(d, one + " " + other)
                self.assertIsInstance(told, Group)
                self.assertEqual(state(told), state(wanted))
                self.assertIsNone(lacks(group_told(d, one), told))
                self.assertIsNone(lacks(group_told(d, other), told))

    def test_more_than_forty_makers(self):
        group = group_told(2, "-y,x -x,y x+1/5,y")
        one, other = Group(2, group.members()[40:80]), Group(2, group.members()[80:120])
        told = both(one, other)
        self.assertEqual(told.members(), group.members())
        self.assertEqual(told.makers(), one.makers() + other.makers())
        again = both(told, told)
        self.assertEqual(again.members(), group.members())
        self.assertEqual(len(again.makers()), 160)

    def test_too_many(self):
        for d, one, other, count in (
            (2, "-x,y", "x,-y", 4), (2, "x+1/2,y", "x,y+1/2", 4), (2, "-y,x", "-x,y", 8), (3, "z,x,y", "-x,-y,z", 12),
            (2, "", "-y,x", 4), (2, "x+1/10,y", "x,y+1/20", 200),
        ):
            one, other = group_told(d, one), group_told(d, other)
            self.assertEqual(len(both(one, other, count).members()), count)
            self.assertEqual(len(both(one, other, most=count).members()), count)
            makers = one.makers() + other.makers()
            for most in (1, count - 1):
                apart = self.refused(TooMany, both, one, other, most).apart
                self.check_apart(d, makers, apart, most)

    def check_apart(self, d, makers, apart, most):
        self.assertIs(type(apart), list)
        self.assertEqual(len(apart), most + 1)
        self.assertTrue(all(type(word) is list and len(word) <= most for word in apart))
        found = set()
        for word in apart:
            one = move(((0,) * d, 1))
            for number in word:
                one = behind(one, makers[number])
            found.add(rest(one))
        self.assertEqual(len(found), most + 1)

    def test_endless(self):
        for d, one, other in ((2, "-y,x", "-y,x-y"), (2, "x+1/20,y", "x,y+1/20"), (3, "x-y,x,z", "z,x,y")):
            one, other = group_told(d, one), group_told(d, other)
            self.check_apart(d, one.makers() + other.makers(), self.refused(TooMany, both, one, other).apart, 200)

    def test_a_most_beyond_ahead_of_all_else(self):
        for most in (0, -1, 201, 10 ** 99, -(10 ** 99)):
            self.refused(NoNumber, both, group_told(2, "-y,x"), group_told(2, "-y,x"), most)
            self.refused(NoNumber, both, group_told(2, "-y,x"), group_told(2, "-y,x-y"), most)
            for plane, space in UNLIKE_AXES:
                self.refused(NoNumber, both, group_told(2, plane), group_told(3, space), most)
                self.refused(NoNumber, both, group_told(3, space), group_told(2, plane), most)

    def test_unlike_axes_ahead_of_too_many(self):
        for plane, space in UNLIKE_AXES:
            for most in (1, 200):
                self.refused(NoDeed, both, group_told(2, plane), group_told(3, space), most)
                self.refused(NoDeed, both, group_told(3, space), group_told(2, plane), most)
            self.refused(NoDeed, both, group_told(3, space), group_told(2, plane))


class Shares(CallCase):
    def check(self, group, part):
        told = self.called(shares, group, part)
        self.assertIs(type(told), list)
        self.assertTrue(all(type(some) is list for some in told))
        self.assertTrue(all_whole(told))
        self.assertTrue(no_list_twice(told))
        members = group.members()
        self.assertEqual(sorted(number for some in told for number in some), list(range(len(members))))
        self.assertTrue(all(some == sorted(some) and len(some) == len(part.members()) for some in told))
        self.assertEqual([some[0] for some in told], sorted(some[0] for some in told))
        for some in told:
            first = members[some[0]]
            wanted = {group.at(behind(lesser, first)) for lesser in part.members()}
            self.assertEqual(set(some), wanted)
        return told

    def test_in_a_greater_one(self):
        for d, great, less in WITHIN:
            with self.subTest(great=great, less=less):
                self.check(group_told(d, great), group_told(d, less))

    def test_in_itself_and_the_still_deed_alone(self):
        for text, group in all_groups():
            count = len(group.members())
            self.assertEqual(self.check(group, group), [list(range(count))])
            self.assertEqual(self.check(group, Group(group.axes(), [])), [[k] for k in range(count)])

    def test_the_lesser_groups_member_first(self):
        # Of a group where it matters which of them comes first.
        group, part = group_told(2, "-y,x -x,y"), group_told(2, "-x,y")
        told = self.check(group, part)
        mirror = part.members()[0]
        behind_it = {frozenset((k, group.at(behind(mirror, one)))) for k, one in enumerate(group.members())}
        ahead_of_it = {frozenset((k, group.at(behind(one, mirror)))) for k, one in enumerate(group.members())}
        self.assertNotEqual(behind_it, ahead_of_it)
        self.assertEqual({frozenset(some) for some in told}, behind_it)

    def test_written_out(self):
        self.assertEqual(shares(group_told(2, "-y,x"), group_told(2, "-x,-y")), [[0, 3], [1, 2]])
        self.assertEqual(shares(group_told(2, "-y,x -x,y"), group_told(2, "-x,y")), [[0, 6], [1, 7], [2, 3], [4, 5]])

    def test_not_within(self):
        for d, great, less in WITHIN:
            great, less = group_told(d, great), group_told(d, less)
            if len(less.members()) < len(great.members()):
                self.refused(NotWithin, shares, less, great)
        for d, one, other in BESIDE:
            self.refused(NotWithin, shares, group_told(d, one), group_told(d, other))
            self.refused(NotWithin, shares, group_told(d, other), group_told(d, one))

    def test_unlike_axes(self):
        for plane, space in UNLIKE_AXES:
            self.refused(NotWithin, shares, group_told(2, plane), group_told(3, space))
            self.refused(NotWithin, shares, group_told(3, space), group_told(2, plane))

    def test_altering_the_lists_alters_nothing(self):
        group, part = group_told(2, "-y,x"), group_told(2, "-x,-y")
        told = shares(group, part)
        told[0].clear()
        told.pop()
        self.assertEqual(shares(group, part), [[0, 3], [1, 2]])


def squares_index(group):
    """How many times the members that come of squares go into all members: so many ways there are, by 1 for all too."""
    squares = sorted({group.product(i, i) for i in range(len(group.members()))})
    found, left = set(squares), list(squares)
    while left:
        one = left.pop()
        for other in squares:
            reached = group.product(one, other)
            if reached not in found:
                found.add(reached)
                left.append(reached)
    return len(group.members()) // len(found)


class Halves(CallCase):
    def check(self, group):
        told = self.called(halves, group)
        count = len(group.members())
        self.assertIs(type(told), list)
        self.assertTrue(all(type(way) is tuple and len(way) == count for way in told))
        self.assertTrue(all_whole(told))
        self.assertEqual(told, sorted(set(told)))
        self.assertNotIn((1,) * count, told)
        self.assertTrue(all(set(way) == {1, -1} for way in told))
        chance = random.Random(84)
        pairs = [(i, j) for i in range(count) for j in range(count)]
        for i, j in pairs if count <= 16 else chance.sample(pairs, 300):
            reached = group.product(i, j)
            self.assertTrue(all(way[reached] == way[i] * way[j] for way in told))
        self.assertEqual(len(told), squares_index(group) - 1)
        return told

    def test_plane_and_space(self):
        for text, group in all_groups():
            with self.subTest(text=text):
                self.check(group)

    def test_all_ways_tried(self):
        for d, text, count in GROUPS:
            if count <= 8:
                group = group_told(d, text)
                products = [(i, j, group.product(i, j)) for i in range(count) for j in range(count)]
                wanted = [
                    way for way in itertools.product((-1, 1), repeat=count)
                    if -1 in way and all(way[k] == way[i] * way[j] for i, j, k in products)
                ]
                self.assertEqual(halves(group), wanted)

    def test_many_halves(self):
        for d, text, count in (
            (2, "x+1/2,y x,y+1/2 -x,y x,-y", 15), (3, "x+1/2,y,z x,y+1/2,z x,y,z+1/2 -x,y,z x,-y,z x,y,-z", 63),
            (3, "x+1/2,y,z x,y+1/4,z x,y,z+1/2 -x,y,z x,-y,z x,y,-z", 63), (2, "x+1/12,y x,y+1/14", 3),
            (3, "x+1/4,y,z x,y+1/2,z x,y,z+1/2 -x,y,z x,-y,z x,y,-z", 63), (2, "x+1/2,y x,y+1/2 -y,x -x,y", 7),
        ):
            self.assertEqual(len(self.check(group_told(d, text))), count)

    def test_none(self):
        for d, text in ((2, ""), (2, "-y,x-y"), (2, "x+1/3,y"), (3, "z,x,y"), (3, "z,x,y -x,-y,z")):
            self.assertEqual(self.called(halves, group_told(d, text)), [])

    def test_written_out(self):
        self.assertEqual(halves(group_told(2, "-y,x")), [(1, -1, -1, 1)])
        self.assertEqual(halves(group_told(2, "-x,y x,-y")), [(-1, -1, 1, 1), (-1, 1, -1, 1), (1, -1, -1, 1)])
        self.assertEqual(halves(group_told(2, "x+1/2,y")), [(1, -1)])

    def test_forty_makers_alter_nothing(self):
        group = group_told(2, "-y,x -x,y x+1/5,y")
        self.assertEqual(halves(Group(2, group.members()[:40] + group.makers())), halves(group))

    def test_in_another_base(self):
        chance = random.Random(85)
        for text, group in list(all_groups())[::5]:
            other = changed(group, whole_change(chance, group.axes(), 10 ** 9))
            self.assertEqual(len(self.check(other)), len(halves(group)))

    def test_altering_the_list_alters_nothing(self):
        group = group_told(2, "-y,x")
        halves(group).clear()
        self.assertEqual(halves(group), [(1, -1, -1, 1)])


class Makers(unittest.TestCase):
    def test_makers_are_deeds(self):
        told = common(group_told(3, "-y,x,z z,x,y"), group_told(3, "-x,-y,-z z,x,y"))
        self.assertEqual(told.members(), Group(3, makers_of("z,x,y")).members())


if __name__ == "__main__":
    unittest.main()
