"""crystalwords.gathered."""

import random
import unittest

from crystalwords.deeds import back, behind, move, moved, still
from crystalwords.gathered import alike, gathered, leading, own
from crystalwords.places import place, rest_place
from crystalwords.texts import read, read_place, show_place, shown
from group_samples import CallCase, all_groups, group_told, small_spots
from samples import HUNDRED_NINES, all_whole, done, great_place, is_deed, no_list_twice, worth


def rest_worth(numbers):
    return [number % 1 for number in numbers]


def whole(numbers):
    return all(number.denominator == 1 for number in numbers)


def spots_of(d):
    """Places to try, with great numbers too."""
    chance = random.Random(80 + d)
    return small_spots(d) + [great_place(chance, d), ((HUNDRED_NINES,) * d, 1)]


class Alike(CallCase):
    def check(self, group, spot):
        told = self.called(alike, group, spot)
        self.assertIs(type(told), list)
        self.assertTrue(all(type(pair) is tuple and len(pair) == 2 for pair in told))
        self.assertTrue(all_whole(told))
        places = [pair[0] for pair in told]
        self.assertEqual(places, sorted(set(places)))
        members = group.members()
        for reached, number in told:
            self.assertEqual(rest_place(reached), reached)
            self.assertEqual(rest_worth(done(members[number], worth(spot))), worth(reached))
        wanted = {tuple(rest_worth(done(member, worth(spot)))) for member in members}
        self.assertEqual({tuple(worth(reached)) for reached in places}, wanted)
        return told

    def test_by_its_definition(self):
        for text, group in all_groups():
            for spot in spots_of(group.axes())[::2]:
                with self.subTest(text=text, spot=spot):
                    self.check(group, spot)

    def test_alike_places_times_own_deeds(self):
        for text, group in all_groups():
            for spot in spots_of(group.axes()):
                self.assertEqual(len(alike(group, spot)) * len(own(group, spot)), len(group.members()))

    def test_written_out(self):
        for d, text, spot, wanted in (
            (2, "-y,x", "0,0", "0,0"), (2, "-y,x", "1/2,0", "0,1/2 1/2,0"), (2, "-y,x", "1/2,1/2", "1/2,1/2"),
            (2, "-y,x", "1/3,0", "0,1/3 0,2/3 1/3,0 2/3,0"), (2, "", "-7/2,5", "1/2,0"),
            (2, "x+1/2,y", "0,0", "0,0 1/2,0"),
            (2, "-y,x-y", "1/3,2/3", "1/3,2/3"), (3, "z,x,y", "1/2,0,0", "0,0,1/2 0,1/2,0 1/2,0,0"),
            (3, "-x,-y,z+1/2", "0,0,0", "0,0,0 0,0,1/2"),
        ):
            told = alike(group_told(d, text), read_place(spot))
            self.assertEqual(sorted(show_place(pair[0]) for pair in told), wanted.split())

    def test_the_same_but_for_whole_moves(self):
        group = group_told(2, "x-y,x y,x")
        one, other = alike(group, ((1, 3), 5)), alike(group, ((1 - 500, 3 + 5 * HUNDRED_NINES), 5))
        self.assertEqual([pair[0] for pair in one], [pair[0] for pair in other])

    def test_altering_the_list_alters_nothing(self):
        group = group_told(2, "-y,x")
        wanted = alike(group, ((1, 0), 3))
        alike(group, ((1, 0), 3)).clear()
        self.assertEqual(alike(group, ((1, 0), 3)), wanted)


class Own(CallCase):
    def test_exact_deeds_in_order(self):
        for text, group in all_groups():
            d = group.axes()
            for spot in spots_of(d)[::2]:
                with self.subTest(text=text, spot=spot):
                    told = self.called(own, group, spot)
                    self.assertIs(type(told), list)
                    self.assertEqual(told, sorted(set(told)))
                    self.assertTrue(all(is_deed(one, d) for one in told))
                    self.assertTrue(all(done(one, worth(spot)) == worth(spot) for one in told))
                    numbers = [group.at(one) for one in told]
                    self.assertNotIn(None, numbers)
                    self.assertIn(still(d), told)
                    # None is missing: of the other members, none with any whole move takes it to itself.
                    for number, member in enumerate(group.members()):
                        gap = [one - two for one, two in zip(done(member, worth(spot)), worth(spot))]
                        self.assertEqual(whole(gap), number in numbers)

    def test_closed(self):
        group = group_told(3, "-y,x,z z,x,y -x,-y,-z")
        for spot in spots_of(3):
            told = own(group, spot)
            for one in told:
                self.assertIn(back(one), told)
                self.assertIn(behind(one, told[0]), told)

    def test_written_out(self):
        for d, text, spot, wanted in (
            (2, "-y,x", "1/2,1/2", "-x+1,-y+1 -y+1,x y,-x+1 x,y"), (2, "-y,x", "1/2,0", "-x+1,-y x,y"),
            (2, "-x,y", "5,1/7", "-x+10,y x,y"), (2, "-x,y+1/2", "0,0", "x,y"), (2, "", "1/3,1/4", "x,y"),
            (2, "-x,y+1/2", "1/4,1/4", "x,y"), (3, "-x,-y,z", "1/2,-1/2,1/9", "-x+1,-y-1,z x,y,z"),
        ):
            self.assertEqual([shown(one) for one in own(group_told(d, text), read_place(spot))], wanted.split())

    def test_altering_the_list_alters_nothing(self):
        group = group_told(2, "-y,x")
        own(group, ((0, 0), 1)).clear()
        self.assertEqual(len(own(group, ((0, 0), 1))), 4)
        self.assertEqual(len(group.members()), 4)


class Leading(CallCase):
    def test_to_alike_places(self):
        chance = random.Random(82)
        for text, group in all_groups():
            d = group.axes()
            for spot in spots_of(d):
                reached, number = chance.choice(alike(group, spot))
                far = ((chance.randint(-HUNDRED_NINES, HUNDRED_NINES),) + (chance.randint(-9, 9),) * (d - 1), 1)
                for other in (spot, reached, moved(move(far), reached)):
                    told = self.called(leading, group, spot, other)
                    self.assertTrue(is_deed(told, d))
                    self.assertIsNotNone(group.at(told))
                    self.assertEqual(done(told, worth(spot)), worth(other))

    def test_none_where_there_is_none(self):
        for text, group in all_groups():
            spots = spots_of(group.axes())
            for spot in spots[::3]:
                known = [pair[0] for pair in alike(group, spot)]
                for other in spots[::2]:
                    told = leading(group, spot, other)
                    if rest_place(other) in known:
                        self.assertEqual(moved(told, spot), other)
                    else:
                        self.assertIsNone(told)

    def test_written_out(self):
        group = group_told(2, "-x,y+1/2")
        self.assertEqual(shown(leading(group, read_place("1/5,0"), read_place("-1/5,1/2"))), "-x,y+1/2")
        self.assertEqual(shown(leading(group, read_place("1/5,0"), read_place("9/5,-3/2"))), "-x+2,y-3/2")
        self.assertEqual(shown(leading(group, read_place("1/5,0"), read_place("6/5,7"))), "x+1,y+7")
        self.assertIsNone(leading(group, read_place("1/5,0"), read_place("-1/5,0")))
        self.assertIsNone(leading(group_told(2, ""), read_place("0,0"), read_place("1/2,0")))


class Gathered(CallCase):
    def check(self, group, spots):
        told = self.called(gathered, group, spots)
        self.assertIs(type(told), list)
        self.assertTrue(all(type(some) is list and some for some in told))
        self.assertTrue(all_whole(told))
        self.assertTrue(no_list_twice(told))
        self.assertTrue(all(some == sorted(some) for some in told))
        self.assertEqual([some[0] for some in told], sorted(some[0] for some in told))
        self.assertEqual(sorted(number for some in told for number in some), list(range(len(spots))))
        together = {number: some for some in told for number in some}
        for i, spot in enumerate(spots):
            known = {tuple(rest_worth(done(member, worth(spot)))) for member in group.members()}
            for j, other in enumerate(spots):
                self.assertEqual(j in together[i], tuple(rest_worth(worth(other))) in known)
        return told

    def test_by_its_definition(self):
        chance = random.Random(83)
        for text, group in all_groups():
            d = group.axes()
            spots = spots_of(d)[::2]
            for spot in list(spots):
                reached = chance.choice(alike(group, spot))[0]
                spots.append(moved(move(((chance.randint(-99, 99),) * d, 1)), reached))
            chance.shuffle(spots)
            with self.subTest(text=text):
                self.check(group, spots)
                self.assertEqual(gathered(group, tuple(spots)), gathered(group, spots))

    def test_written_out(self):
        group = group_told(2, "-y,x")
        for text, wanted in (
            ("", []), ("0,0", [[0]]), ("0,0 0,0", [[0, 1]]), ("0,0 1/2,0 0,1/2 1/2,1/2", [[0], [1, 2], [3]]),
            ("1/3,0 0,0 -1/3,5 0,2/3 7,-7", [[0, 2, 3], [1, 4]]),
            ("1/2,1/2 0,0 3/2,-1/2 1,0 1/2,0", [[0, 2], [1, 3], [4]]),
        ):
            self.assertEqual(gathered(group, [read_place(word) for word in text.split()]), wanted)
            self.assertEqual(gathered(group, tuple(read_place(word) for word in text.split())), wanted)

    def test_without_members_but_the_still_deed(self):
        spots = [place([k, 0], 5) for k in range(-5, 11)]
        told = self.check(group_told(2, ""), spots)
        self.assertEqual(told, [[k, k + 5, k + 10] + [15] * (k == 0) for k in range(5)])

    def test_sixty_places(self):
        self.check(group_told(2, "x-y,x y,x"), [place([k, 3 * k], 11) for k in range(60)])

    def test_altering_the_lists_alters_nothing(self):
        group, spots = group_told(2, "-y,x"), [read_place("0,0"), read_place("1,1")]
        told = gathered(group, spots)
        told[0].append(9)
        told.clear()
        self.assertEqual(gathered(group, spots), [[0, 1]])
        self.assertEqual(len(spots), 2)


class Together(unittest.TestCase):
    def test_a_mirror_line(self):
        group = group_told(2, "-x,y")
        self.assertEqual(shown(own(group, read_place("0,1/3"))[0]), "-x,y")
        self.assertEqual(leading(group, read_place("1/4,0"), read_place("3/4,0")), read("-x+1,y"))


if __name__ == "__main__":
    unittest.main()
