"""crystalwords.groups."""

import copy
import itertools
import random
import unittest

from crystalwords.deeds import back, behind, deed, move, rest, still
from crystalwords.errors import CrystalError, NoDeed, NoNumber, TooMany
from crystalwords.groups import Group, group_of
from crystalwords.texts import read, shown
from group_samples import GROUPS, makers_of
from samples import (
    PLANE, SPACE, all_whole, frozen, great_place, great_rows, is_deed, no_list_twice, unimodular,
)

def done_word(d, makers, word, known=None):
    """What a word comes to; known keeps what came of the words' beginnings, so that long ones are soon done."""
    known = {} if known is None else known
    known[()] = still(d)
    for length in range(len(word)):
        done, longer = tuple(word[:length]), tuple(word[:length + 1])
        if longer not in known:
            known[longer] = behind(known[done], makers[word[length]])
    return known[tuple(word)]


def fewest_numbers(d, makers):
    """For each member, the length of its shortest word, by trying all members of one length after another."""
    lengths = {}
    last = {still(d)}
    while last:
        length = len(set(lengths.values()))
        lengths.update({one: length for one in last})
        last = {rest(behind(one, maker)) for one in last for maker in makers} - set(lengths)
    return lengths


class Closed(unittest.TestCase):
    def check(self, d, makers, group):
        members = group.members()
        self.assertEqual(members, sorted(members))
        self.assertEqual(len(set(members)), len(members))
        self.assertTrue(all(is_deed(one, d) and rest(one) == one for one in members))
        self.assertIn(still(d), members)
        self.assertEqual(group.axes(), d)
        self.assertEqual(group.makers(), list(makers))
        # Closed: nothing more comes of the makers and of their ways back.
        known = set(members)
        for one in members:
            for maker in makers:
                self.assertIn(rest(behind(one, maker)), known)
                self.assertIn(rest(behind(one, back(maker))), known)
        self.check_words(d, makers, group)

    def check_words(self, d, makers, group):
        words = group.words()
        self.assertIs(type(words), list)
        self.assertTrue(all(type(word) is list for word in words))
        self.assertTrue(all_whole(words))
        lengths = fewest_numbers(d, makers)
        known = {}
        self.assertEqual(len(words), len(lengths))
        for member, word in zip(group.members(), words):
            self.assertTrue(all(0 <= number < len(makers) for number in word))
            self.assertEqual(rest(done_word(d, makers, word, known)), member)
            self.assertEqual(len(word), lengths[member])

    def test_plane_and_space(self):
        for d, text, count in GROUPS:
            with self.subTest(text=text):
                makers = makers_of(text)
                group = Group(d, makers)
                self.assertEqual(len(group.members()), count)
                self.check(d, makers, group)

    def test_members_written_out(self):
        turns = Group(2, makers_of("-y,x"))
        self.assertEqual([shown(one) for one in turns.members()], ["-x,-y", "-y,x", "y,-x", "x,y"])
        self.assertEqual([shown(one) for one in Group(2, []).members()], ["x,y"])
        self.assertEqual(
            [shown(one) for one in Group(2, makers_of("-x,y+1/4")).members()],
            ["-x,y+1/4", "-x,y+3/4", "x,y", "x,y+1/2"],
        )

    def test_words_written_out(self):
        self.assertEqual(Group(2, makers_of("-y,x")).words(), [[0, 0], [0], [0, 0, 0], []])
        self.assertEqual(Group(2, makers_of("-y,x y,-x")).words()[1:], [[0], [1], []])
        self.assertEqual(Group(2, []).words(), [[]])
        self.assertEqual(Group(3, makers_of("x,y,z+7")).words(), [[]])

    def test_the_first_number_of_a_word_is_done_first(self):
        makers = makers_of("-y,x -x,y+1/2")
        self.assertNotEqual(rest(done_word(2, makers, [0, 1])), rest(done_word(2, makers, [1, 0])))
        group = Group(2, makers)
        self.check_words(2, makers, group)

    def test_makers_as_a_list_and_as_a_tuple(self):
        for d, text, count in GROUPS[::4]:
            makers = makers_of(text)
            one, other = Group(d, makers), Group(d, tuple(makers))
            self.assertEqual(one.members(), other.members())
            self.assertEqual(one.words(), other.words())
            self.assertEqual(one.makers(), other.makers())
            self.assertIs(type(other.makers()), list)

    def test_makers_are_told_as_handed_in(self):
        makers = makers_of("x+5,y-3 -x-7/2,y+9 x,y -x-7/2,y+9")
        self.assertEqual(Group(2, makers).makers(), makers)
        self.assertEqual(Group(2, []).makers(), [])

    def test_the_order_of_makers_alters_no_members(self):
        makers = makers_of("-y,x -x+1/2,y+1/2 x+1/2,y+1/2")
        wanted = Group(2, makers).members()
        for others in itertools.permutations(makers):
            self.assertEqual(Group(2, list(others)).members(), wanted)

    def test_forty_makers(self):
        group = Group(3, makers_of("-y,x,z z,x,y -x,-y,-z x+1/2,y+1/2,z x,y+1/2,z+1/2"))
        makers = group.members()[40:80]
        self.check(3, makers, Group(3, makers))

    def test_another_base_and_great_numbers(self):
        chance = random.Random(50)
        for d, text, count in GROUPS[::3]:
            for bound in (2, 10 ** 15):
                rows, undone = unimodular(chance, d, bound, 3)
                way = deed(rows, [0] * d, 1)
                makers = [behind(behind(back(way), one), way) for one in makers_of(text)]
                group = Group(d, makers)
                self.assertEqual(len(group.members()), count)
                self.check(d, makers, group)

    def test_great_unders(self):
        spot = great_place(random.Random(51), 2)
        way = move(spot)
        makers = [behind(behind(back(way), one), way) for one in makers_of("-y,x -x,y")]
        group = Group(2, makers)
        self.assertEqual(len(group.members()), 8)
        self.check(2, makers, group)


class Numbers(unittest.TestCase):
    def test_at(self):
        for d, text, count in GROUPS[::2]:
            group = Group(d, makers_of(text))
            for number, one in enumerate(group.members()):
                self.assertEqual(group.at(one), number)
                self.assertIs(type(group.at(one)), int)
                for steps in ((1,) * d, (-7,) + (10 ** 50,) * (d - 1)):
                    self.assertEqual(group.at(behind(one, move((steps, 1)))), number)
                    self.assertEqual(group.at(behind(move((steps, 1)), one)), number)
                self.assertIsNone(group.at(behind(one, move(((1,) * d, 997)))))

    def test_no_member(self):
        group = Group(2, makers_of("-y,x"))
        for text in ("-x,y", "x+1/2,y", "x+y,y", "-y,x-y", "x,y,z", "-y,x,z", "-x,-y,-z"):
            self.assertIsNone(group.at(read(text)), text)
        self.assertIsNone(Group(3, []).at(read("x,y")))
        self.assertIsNone(Group(2, []).at(read("-x,-y")))

    def test_product_and_back(self):
        for d, text, count in GROUPS:
            group = Group(d, makers_of(text))
            members = group.members()
            places = {one: number for number, one in enumerate(members)}
            chosen = range(count) if count <= 24 else random.Random(52).sample(range(count), 24)
            for i in chosen:
                other = group.back_of(i)
                self.assertEqual(other, places[rest(back(members[i]))])
                self.assertEqual(members[group.product(i, other)], still(d))
                self.assertEqual(members[group.product(other, i)], still(d))
                for j in chosen:
                    self.assertEqual(group.product(i, j), places[rest(behind(members[i], members[j]))])

    def test_first_i_then_j(self):
        group = Group(2, makers_of("-y,x -x,y"))
        turn, mirror = group.at(read("-y,x")), group.at(read("-x,y"))
        self.assertEqual(group.product(turn, mirror), group.at(read("y,x")))
        self.assertEqual(group.product(mirror, turn), group.at(read("-y,-x")))
        self.assertEqual(group.back_of(turn), group.at(read("y,-x")))


class Lists(unittest.TestCase):
    def told(self, group):
        return (group.axes(), group.makers(), group.members(), group.words())

    def test_altering_what_was_told_alters_nothing(self):
        group = Group(2, makers_of("-y,x -x,y"))
        wanted = copy.deepcopy(self.told(group))
        for alter in (
            lambda: group.makers().clear(), lambda: group.members().reverse(), lambda: group.words().pop(),
            lambda: group.words()[0].append(9), lambda: group.members().append(1), lambda: group.makers().append(1),
        ):
            alter()
            self.assertEqual(self.told(group), wanted)
        for word in group.words():
            word.append(7)
        self.assertEqual(self.told(group), wanted)
        self.assertEqual(group.product(1, 2), Group(2, makers_of("-y,x -x,y")).product(1, 2))

    def test_altering_the_makers_list_behind_alters_nothing(self):
        makers = makers_of("-y,x -x,y")
        group = Group(2, makers)
        wanted = copy.deepcopy(self.told(group))
        makers.append(read("x+1/2,y"))
        makers[0] = read("x,y")
        self.assertEqual(self.told(group), wanted)

    def test_the_makers_handed_in_stay_as_they_were(self):
        for d, text, count in GROUPS:
            makers = makers_of(text)
            Group(d, makers)
            self.assertEqual(makers, makers_of(text))

    def test_no_list_stands_at_two_places(self):
        group = Group(2, makers_of("-y,x -x,y"))
        self.assertTrue(no_list_twice((group.words(), group.words(), group.makers(), group.members())))

    def test_two_groups_of_one_list(self):
        makers = makers_of("-y,x")
        one, other = Group(2, makers), Group(2, makers)
        one.words()[0].append(5)
        one.makers().append(5)
        self.assertEqual(self.told(one), self.told(other))


class FewMakers(unittest.TestCase):
    def test_the_same_members_of_few_makers(self):
        for d, text, count in GROUPS:
            group = Group(d, makers_of(text))
            for deeds in (group.makers(), group.members(), group.members()[::-1]):
                told = group_of(d, deeds)
                self.assertEqual(told.members(), group.members())
                self.assertLessEqual(2 ** len(told.makers()), count)


class Refused(unittest.TestCase):
    def refused(self, wanted, *handed):
        kept = copy.deepcopy(handed)
        with self.assertRaises(CrystalError) as caught:
            Group(*handed)
        self.assertIs(type(caught.exception), wanted)
        self.assertEqual(handed, kept)
        return caught.exception

    def check_apart(self, d, makers, most):
        told = self.refused(TooMany, d, makers, most).apart
        self.assertIs(type(told), list)
        self.assertEqual(len(told), most + 1)
        self.assertTrue(all(type(word) is list and len(word) <= most for word in told))
        self.assertTrue(all_whole(told))
        self.assertTrue(all(0 <= number < len(makers) for word in told for number in word))
        known = {}
        self.assertEqual(len({rest(done_word(d, makers, word, known)) for word in told}), most + 1)
        self.assertTrue(no_list_twice(told))

    def test_as_many_as_there_are_and_one_less(self):
        for d, text, count in GROUPS:
            makers = makers_of(text)
            with self.subTest(text=text):
                self.assertEqual(len(Group(d, makers, count).members()), count)
                self.assertEqual(len(Group(d, makers, most=count).members()), count)
                self.assertEqual(Group(d, makers, min(200, count + 1)).words(), Group(d, makers).words())
                if count > 1:
                    self.check_apart(d, makers, count - 1)
                    self.check_apart(d, makers, 1)

    def test_more_than_two_hundred(self):
        for d, text in (
            (2, "x+1/201,y"), (2, "x-1/1009,y+1/997"), (2, "-y,x -x,y x+1/6,y"), (2, "-x,y+1/202"),
            (3, "-y,x,z z,x,y -x,-y,-z x+1/2,y,z"), (3, "x+1/7,y,z x,y+1/7,z x,y,z+1/7"),
        ):
            makers = makers_of(text)
            with self.subTest(text=text):
                self.check_apart(d, makers, 200)
                self.check_apart(d, makers, 7)
                with self.assertRaises(TooMany) as caught:
                    Group(d, makers)
                self.assertEqual(len(caught.exception.apart), 201)

    def test_makers_that_never_come_back(self):
        for d, spans in ((2, PLANE), (3, SPACE)):
            for rows in spans[0]:
                for most in (1, 2, 50, 200):
                    self.check_apart(d, [deed(rows, [1] * d, 2)], most)
                self.check_apart(d, [still(d), deed(rows, [0] * d, 1), deed(rows, [1] * d, 3)], 200)
        # Each of these comes back, but what comes of both doesn't.
        for text in ("-x,y -x+y,y", "-y,x y,-x-y", "-x,-y x,-y x,x-y"):
            self.check_apart(2, makers_of(text), 200)

    def test_makers_that_never_come_back_with_great_numbers(self):
        chance = random.Random(53)
        for d in (2, 3):
            makers = [deed(great_rows(chance, d), *great_place(chance, d)) for trial in range(3)]
            self.check_apart(d, makers, 200)
            self.check_apart(d, makers[:1], 200)

    def test_most_beyond_ahead_of_all_else(self):
        plain = makers_of("-y,x")
        for most in (0, 201, -1, -200, 202, 10 ** 99, -(10 ** 99)):
            for d, makers in (
                (2, plain), (2, []), (3, plain), (4, plain), (0, []), (2, makers_of("x,y,z")), (1, makers_of("x+y,y")),
                (2, makers_of("x+y,y")),
            ):
                with self.subTest(most=most, d=d, makers=makers):
                    self.refused(NoNumber, d, makers, most)

    def test_no_deed(self):
        for d in (-1, 0, 1, 4, 5, 10 ** 99):
            for makers in ([], makers_of("-y,x"), makers_of("x+y,y"), makers_of("x,y,z"), tuple(makers_of("x,y,z"))):
                self.refused(NoDeed, d, makers)
                self.refused(NoDeed, d, makers, 1)
        for d, text in (
            (2, "x,y,z"), (3, "x,y"), (2, "-y,x x,y,z"), (2, "x,y,z -y,x"), (3, "x,y,z -x,-y,-z x,y"),
            (3, "x,y,z -y,x z,x,y"),
        ):
            self.refused(NoDeed, d, makers_of(text))
            self.refused(NoDeed, d, tuple(makers_of(text)), 200)

    def test_no_deed_ahead_of_too_many(self):
        for d, text in ((2, "x+y,y x,y,z"), (3, "x+y,y,z x,y"), (2, "-y,x -x,y x,y,z"), (4, "x+y,y")):
            self.refused(NoDeed, d, makers_of(text))
            self.refused(NoDeed, d, makers_of(text), 1)

    def test_altering_apart_alters_nothing(self):
        makers = makers_of("-y,x")
        one = self.refused(TooMany, 2, makers, 2).apart
        wanted = frozen(one)
        for word in one:
            word.append(5)
        one.clear()
        self.assertEqual(frozen(self.refused(TooMany, 2, makers, 2).apart), wanted)


if __name__ == "__main__":
    unittest.main()
