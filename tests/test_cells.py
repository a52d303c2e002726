"""crystalwords.cells."""

import itertools
import random
import unittest
from fractions import Fraction
from math import lcm

from crystalwords.cells import changed, least_cell, least_form, moves
from crystalwords.changes import back_change, change, change_behind, new_deed, new_place
from crystalwords.deeds import behind, move, rest
from crystalwords.errors import NoChange, NoForm, NoNumber, NotKept, TooMany
from crystalwords.groups import Group
from crystalwords.places import place
from crystalwords.texts import read, read_place, show_place
from group_samples import CallCase, all_groups, group_told, solved, state, whole_change
from samples import HUNDRED_NINES, all_whole, is_deed, is_place, laplace, row_product, unimodular, worth


def told_change(text):
    spots = [read_place(word) for word in text.split()]
    return change(spots[:-1], spots[-1])


def table_of(way):
    """The table, in fractions, whose columns are the vectors."""
    vectors = [worth(vector) for vector in way[0]]
    return [[vector[i] for vector in vectors] for i in range(len(vectors))]


def size_of(way):
    return abs(laplace(table_of(way)))


def rests_there(group, way):
    """The rests, in the new base, of all deeds of a group: of each member with whole moves enough."""
    d = group.axes()
    units = [[int(i == k) for k in range(d)] for i in range(d)]
    columns = [solved(table_of(way), unit) for unit in units]
    # So many times each old whole move is a new one.
    rounds = [lcm(*[number.denominator for number in column]) for column in columns]
    found = set()
    for steps in itertools.product(*[range(count) for count in rounds]):
        for member in group.members():
            found.add(rest(new_deed(behind(member, move((steps, 1))), way)))
    return sorted(found)


# Groups with changes whose vectors are moves of theirs, and how many members there are then.
KEPT = (
    (2, "", "1,0 0,1 0,0", 1), (2, "", "2,0 0,3 0,0", 6), (2, "", "1,2 -3,1 1/2,1/7", 7), (2, "", "2,0 0,-3 5,5", 6),
    (2, "-x,-y", "1,1 0,2 0,1/2", 4), (2, "-y,x", "1,1 -1,1 0,0", 8), (2, "-y,x -x,y", "2,0 0,2 1/2,1/2", 32),
    (2, "-y,x", "5,0 0,5 0,0", 100), (2, "x-y,x y,x", "1,-1 1,2 1/3,2/3", 36), (2, "x-y,x y,x", "4,0 0,4 0,0", 192),
    (2, "x+1/2,y+1/2", "1/2,1/2 -1/2,1/2 0,0", 1), (2, "x+1/2,y+1/2", "1/2,1/2 0,1 1/8,0", 1),
    (2, "x+1/2,y+1/2 -x,y", "1/2,1/2 -1/2,1/2 0,0", 2), (2, "x+1/2,y+1/2 -x,y", "3/2,1/2 -3/2,1/2 0,0", 6),
    (2, "x+1/10,y x,y+1/20", "1/10,0 0,1/20 0,0", 1), (2, "x+1/10,y x,y+1/20", "3/10,1/20 0,1/4 1/3,1/3", 15),
    (2, "x+1/200,y", "1/200,0 0,1 0,0", 1), (2, "x+1/200,y", "1/2,0 0,2 0,0", 200),
    (2, "y+1/2,x", "1/2,1/2 0,1 0,0", 2),
    (3, "", "1,0,0 0,1,0 0,0,1 1/2,1/3,1/4", 1), (3, "", "2,0,0 0,1,3 0,-1,2 0,0,0", 10),
    (3, "-y,x,z z,x,y -x,-y,-z x+1/2,y+1/2,z x,y+1/2,z+1/2", "0,1/2,1/2 1/2,0,1/2 1/2,1/2,0 0,0,0", 48),
    (3, "-y,x,z z,x,y", "0,1,1 1,0,1 1,1,0 1/4,1/4,1/4", 48), (3, "-x,-y,z+1/5", "1,0,0 0,1,0 0,0,2/5 0,0,1/10", 4),
    (3, "-y,x-y,z x+2/3,y+1/3,z+1/3", "2/3,1/3,1/3 -1/3,1/3,1/3 -1/3,-2/3,1/3 0,0,0", 3),
    (3, "x+1/2,y+1/2,z", "1/2,1/2,0 0,1,0 0,0,1 0,0,0", 1),
)


class Changed(CallCase):
    def check(self, group, way, count):
        told = self.called(changed, group, way)
        self.assertIsInstance(told, Group)
        self.assertEqual(told.axes(), group.axes())
        members = told.members()
        self.assertEqual(len(members), count)
        self.assertEqual(members, sorted(set(members)))
        self.assertTrue(all(is_deed(one, group.axes()) and rest(one) == one for one in members))
        self.assertEqual(len(members), len(group.members()) * size_of(way))
        for member in group.members():
            self.assertIsNotNone(told.at(new_deed(member, way)))
        for maker in told.makers():
            self.assertIsNotNone(told.at(maker))
        self.assertEqual(Group(group.axes(), told.makers()).members(), members)
        return told

    def test_members_by_their_definition(self):
        for d, text, way, count in KEPT:
            with self.subTest(text=text, way=way):
                group, way = group_told(d, text), told_change(way)
                told = self.check(group, way, count)
                self.assertEqual(told.members(), rests_there(group, way))

    def test_the_change_back_leads_to_the_same_members(self):
        for d, text, way, count in KEPT:
            with self.subTest(text=text, way=way):
                group, way = group_told(d, text), told_change(way)
                again = changed(changed(group, way), back_change(way))
                self.assertEqual(again.members(), group.members())

    def test_whole_vectors_of_determinant_one(self):
        chance = random.Random(70)
        for text, group in all_groups():
            for bound in (1, 3, 10 ** 20):
                way = whole_change(chance, group.axes(), bound)
                with self.subTest(text=text, way=way):
                    told = self.check(group, way, len(group.members()))
                    wanted = sorted(rest(new_deed(member, way)) for member in group.members())
                    self.assertEqual(told.members(), wanted)
                    self.assertEqual(changed(told, back_change(way)).members(), group.members())

    def test_one_change_and_then_another_one(self):
        group = group_told(2, "-y,x x+1/2,y+1/2")
        one, other = told_change("1/2,1/2 -1/2,1/2 1/4,1/4"), told_change("1,2 -2,1 0,1/3")
        wanted = changed(changed(group, one), other).members()
        self.assertEqual(changed(group, change_behind(one, other)).members(), wanted)

    def test_a_vector_that_is_no_move(self):
        for d, text, way in (
            (2, "", "1/2,0 0,1 0,0"), (2, "", "1,0 0,1/2 0,0"), (2, "-y,x", "1/2,1/2 -1/2,1/2 0,0"),
            (2, "x+1/2,y+1/2", "1/2,0 0,1 0,0"), (2, "x+1/2,y+1/2", "1/2,1/2 0,1/2 0,0"),
            (2, "-x,y+1/2", "1,0 0,1/2 0,0"),
            (3, "-x,-y,z+1/2", "1,0,0 0,1,0 0,0,1/2 0,0,0"), (3, "", "1,0,0 0,1,0 1/3,0,1 0,0,0"),
            (2, "x+1/4,y", "1/8,0 0,8 0,0"),
        ):
            with self.subTest(text=text, way=way):
                self.refused(NotKept, changed, group_told(d, text), told_change(way))

    def test_rows_that_are_not_whole(self):
        for d, text, way in (
            (2, "-y,x", "2,0 0,1 0,0"), (2, "y,x", "1,0 0,3 0,0"), (2, "x-y,x", "1,1 -1,1 0,0"),
            (2, "-x,y", "1,1 0,3 0,0"),
            (3, "z,x,y", "2,0,0 0,1,0 0,0,1 0,0,0"), (2, "-y,x x+1/2,y x,y+1/2", "1/2,0 0,1 0,0"),
            (2, "-x,-y -x,y", "3,1 1,2 0,0"),
        ):
            with self.subTest(text=text, way=way):
                self.refused(NotKept, changed, group_told(d, text), told_change(way))

    def test_too_many(self):
        for d, text, way, count in KEPT:
            group, way = group_told(d, text), told_change(way)
            self.assertEqual(len(changed(group, way, count).members()), count)
            self.assertEqual(len(changed(group, way, most=min(200, count + 1)).members()), count)
            if count > 1:
                for most in (1, count - 1):
                    apart = self.refused(TooMany, changed, group, way, most).apart
                    self.assertIs(type(apart), list)
                    self.assertEqual(apart, [])

    def test_more_than_two_hundred(self):
        nines = "9" * 100
        for d, text, way in (
            (2, "", "201,0 0,1 0,0"), (2, "-y,x", "8,0 0,8 0,0"), (2, "", f"{nines},0 0,{nines} 0,0"),
            (2, "", f"1,0 7,-{nines} 1/2,0"), (3, "-x,-y,-z", "5,0,0 0,5,0 0,0,5 0,0,0"),
            (2, "x+1/200,y", "1,0 0,2 0,0"),
        ):
            with self.subTest(text=text, way=way):
                group = group_told(d, text)
                self.assertEqual(self.refused(TooMany, changed, group, told_change(way)).apart, [])
                self.assertEqual(self.refused(TooMany, changed, group, told_change(way), 200).apart, [])
        self.assertEqual(len(changed(group_told(2, ""), told_change("200,0 0,1 0,0")).members()), 200)

    def test_not_kept_ahead_of_too_many(self):
        for d, text, way in (
            (2, "-y,x", "50,0 0,51 0,0"), (2, "", "1000,0 0,1/2 0,0"), (2, "-x,y", "1,300 1000,1 0,0"),
        ):
            self.refused(NotKept, changed, group_told(d, text), told_change(way), 1)

    def test_a_most_beyond_ahead_of_all_else(self):
        group = group_told(2, "-y,x")
        for most in (0, -1, 201, 202, 10 ** 99, -(10 ** 99)):
            for way in ("1,0 0,1 0,0", "1/2,0 0,1 0,0", "2,0 0,1 0,0", "50,0 0,50 0,0", "1,0,0 0,1,0 0,0,1 0,0,0"):
                self.refused(NoNumber, changed, group, told_change(way), most)

    def test_unlike_axes_next(self):
        for most in (1, 200):
            for way in ("1,0,0 0,1,0 0,0,1 0,0,0", "1/2,0,0 0,1,0 0,0,1 0,0,0", "99,0,0 0,99,0 0,0,1 0,0,0"):
                self.refused(NoChange, changed, group_told(2, "-y,x"), told_change(way), most)
            for way in ("1,0 0,1 0,0", "1/2,0 0,1 0,0", "99,0 0,99 0,0"):
                self.refused(NoChange, changed, group_told(3, "z,x,y"), told_change(way), most)
                self.refused(NoChange, changed, group_told(3, ""), told_change(way), most)

    def test_altering_what_was_told_alters_nothing(self):
        group, way = group_told(2, "-y,x -x,y"), told_change("1,1 -1,1 0,0")
        kept, wanted = state(group), state(changed(group, way))
        told = changed(group, way)
        told.members().clear()
        told.makers().clear()
        for word in told.words():
            word.append(3)
        error = self.refused(TooMany, changed, group, way, 3)
        error.apart.append([1])
        self.assertEqual(self.refused(TooMany, changed, group, way, 3).apart, [])
        self.assertEqual(state(told), wanted)
        self.assertEqual(state(group), kept)


class Moves(CallCase):
    def test_places_of_members_with_still_rows(self):
        for text, group in all_groups():
            told = self.called(moves, group)
            self.assertIs(type(told), list)
            self.assertEqual(told, sorted(set(told)))
            self.assertEqual(told[0], ((0,) * group.axes(), 1))
            self.assertTrue(all(is_place(spot, group.axes()) for spot in told))
            numbers = [group.at(move(spot)) for spot in told]
            self.assertNotIn(None, numbers)
            others = [one for number, one in enumerate(group.members()) if number not in numbers]
            self.assertFalse([one for one in others if one[0] == move(told[0])[0]])

    def test_written_out(self):
        for d, text, wanted in (
            (2, "-y,x", "0,0"), (2, "x+1/2,y", "0,0 1/2,0"),
            (2, "x+1/2,y x,y+1/3", "0,0 0,1/3 0,2/3 1/2,0 1/2,1/3 1/2,2/3"),
            (2, "-x,y+1/4", "0,0 0,1/2"), (3, "x+1/2,y+1/2,z x,y+1/2,z+1/2", "0,0,0 0,1/2,1/2 1/2,0,1/2 1/2,1/2,0"),
            (2, "x+1/4,y", "0,0 1/4,0 1/2,0 3/4,0"),
        ):
            told = moves(group_told(d, text))
            self.assertEqual(sorted(show_place(spot) for spot in told), sorted(wanted.split()))
            self.assertEqual(told, sorted(read_place(word) for word in wanted.split()))

    def test_altering_the_list_alters_nothing(self):
        group = group_told(2, "x+1/2,y")
        moves(group).clear()
        self.assertEqual(len(moves(group)), 2)


class LeastCell(CallCase):
    def check_form(self, rows):
        for i, row in enumerate(rows):
            self.assertEqual(row[:i], [0] * i)
            self.assertGreaterEqual(row[i], 1)
            for above in rows[:i]:
                self.assertTrue(0 <= above[i] < row[i])

    def check(self, group):
        d = group.axes()
        cell = self.called(least_cell, group)
        self.assertEqual(change(list(cell[0]), cell[1]), cell)
        self.assertEqual(cell[1], ((0,) * d, 1))
        least = lcm(*[vector[1] for vector in cell[0]])
        self.check_form([[top * least // vector[1] for top in vector[0]] for vector in cell[0]])
        # The vectors are moves, and all moves are whole sums of them.
        for vector in cell[0]:
            self.assertIsNotNone(group.at(move(vector)))
        units = [(tuple(int(i == k) for k in range(d)), 1) for i in range(d)]
        for spot in moves(group) + units:
            self.assertEqual(new_place(spot, cell)[1], 1)
        inner = changed(group, cell)
        self.assertEqual(moves(inner), [((0,) * d, 1)])
        self.assertEqual(len(inner.members()) * len(moves(group)), len(group.members()))
        return cell

    def test_plane_and_space(self):
        for text, group in all_groups():
            with self.subTest(text=text):
                self.check(group)

    def test_moves_that_go_aslant(self):
        chance = random.Random(71)
        for trial in range(60):
            d = chance.choice((2, 3))
            under = chance.randint(2, 10 if d == 2 else 4)
            tops = [[chance.randrange(under) for k in range(d)] for count in range(chance.randint(1, d))]
            makers = [move(place(some, under)) for some in tops]
            self.check(Group(d, makers))
            self.check(Group(d, makers + [read("-x,-y" if d == 2 else "-x,-y,-z")]))

    def test_written_out(self):
        for d, text, wanted in (
            (2, "", "1,0 0,1 0,0"), (2, "x+1/2,y+1/2", "1/2,1/2 0,1 0,0"), (2, "x+1/2,y", "1/2,0 0,1 0,0"),
            (2, "x+1/2,y x,y+1/2", "1/2,0 0,1/2 0,0"), (2, "x+1/3,y+2/3", "1/3,2/3 0,1 0,0"),
            (2, "x,y+1/7", "1,0 0,1/7 0,0"),
            (2, "x+1/6,y+1/4", "1/6,1/4 0,1/2 0,0"), (2, "-x,y+1/4", "1,0 0,1/2 0,0"),
            (3, "x+1/2,y+1/2,z x,y+1/2,z+1/2", "1/2,0,1/2 0,1/2,1/2 0,0,1 0,0,0"),
            (3, "x+1/2,y+1/2,z+1/2", "1/2,1/2,1/2 0,1,0 0,0,1 0,0,0"), (3, "z,x,y", "1,0,0 0,1,0 0,0,1 0,0,0"),
            (3, "x+2/3,y+1/3,z+1/3", "1/3,2/3,2/3 0,1,0 0,0,1 0,0,0"),
        ):
            with self.subTest(text=text):
                self.assertEqual(self.check(group_told(d, text)), told_change(wanted))

    def test_the_same_for_other_makers(self):
        one = group_told(2, "x+1/6,y+1/4 -x,-y")
        other = group_told(2, "-x+1/6,-y+1/4 -x,-y x+1/2,y+3/4")
        self.assertEqual(one.members(), other.members())
        self.assertEqual(least_cell(one), least_cell(other))


def measured(form, x, y):
    return form[0] * x * x + 2 * form[1] * x * y + form[2] * y * y


def in_base(form, rows):
    """The form that measures the vectors of a base, the columns of rows, as the old one does."""
    table = [[form[0], form[1]], [form[1], form[2]]]
    told = row_product(row_product([list(column) for column in zip(*rows)], table), rows)
    return (told[0][0], told[0][1], told[1][1])


class LeastForm(CallCase):
    def check(self, form):
        told = least_form(*form)
        self.assertIs(type(told), tuple)
        least, rows = told
        self.assertIs(type(least), tuple)
        self.assertEqual([type(rows)] + [type(row) for row in rows], [tuple] * 3)
        self.assertEqual([len(least), len(rows), len(rows[0]), len(rows[1])], [3, 2, 2, 2])
        self.assertTrue(all_whole(told))
        self.assertTrue(0 <= 2 * least[1] <= least[0] <= least[2])
        self.assertIn(laplace(rows), (1, -1))
        self.assertEqual(in_base(form, rows), least)
        for x, y in ((1, 0), (0, 1), (3, -2)):
            old = [row[0] * x + row[1] * y for row in rows]
            self.assertEqual(measured(least, x, y), measured(form, *old))
        return least

    def test_small_forms(self):
        for a, b, c in itertools.product(range(1, 9), range(-9, 10), range(1, 9)):
            if a * c > b * b:
                least = self.check((a, b, c))
                # The least value of a form is that of its first vector.
                found = min(measured((a, b, c), x, y) for x in range(-9, 10) for y in range(-9, 10) if x or y)
                self.assertEqual(least[0], found)

    def test_forms_that_are_least_already(self):
        for form in ((1, 0, 1), (2, 1, 2), (2, 1, 3), (5, 2, 5), (1, 0, 10 ** 99), (6, 3, 6), (7, 0, 7), (4, 1, 9)):
            self.assertEqual(self.check(form), form)

    def test_written_out(self):
        for form, wanted in (
            ((1, 1, 2), (1, 0, 1)), ((5, 0, 2), (2, 0, 5)), ((2, -1, 2), (2, 1, 2)), ((3, -1, 3), (3, 1, 3)),
            ((10, 7, 5), (1, 0, 1)), ((1, 10 ** 30, 10 ** 60 + 1), (1, 0, 1)), ((4, 3, 4), (2, 1, 4)), ((5, 4, 5),
            (2, 1, 5)),
            ((5, -4, 5), (2, 1, 5)), ((2, 3, 8), (2, 1, 4)),
        ):
            self.assertEqual(self.check(form), wanted)

    def test_great_numbers(self):
        chance = random.Random(72)
        for figures in (5, 20, 50):
            for trial in range(20):
                bound = 10 ** figures
                one, other = ([chance.randint(-bound, bound) for k in range(2)] for vector in range(2))
                form = tuple(x1 * x2 + y1 * y2 for (x1, y1), (x2, y2) in ((one, one), (one, other), (other, other)))
                if form[0] * form[2] > form[1] ** 2:
                    self.check(form)
        self.check((HUNDRED_NINES, HUNDRED_NINES - 1, HUNDRED_NINES))
        self.check((HUNDRED_NINES, 1 - HUNDRED_NINES, HUNDRED_NINES))
        self.check((1, 0, HUNDRED_NINES))
        self.check((HUNDRED_NINES, 0, 1))

    def test_the_same_in_another_base(self):
        chance = random.Random(73)
        for form in ((1, 0, 1), (2, 1, 2), (3, 1, 7), (5, 0, 5), (4, 2, 9), (6, 1, 6), (1, 0, 10 ** 40)):
            for bound in (1, 5, 10 ** 8):
                for trial in range(6):
                    rows = unimodular(chance, 2, bound)[0]
                    self.assertEqual(self.check(in_base(form, rows)), form)

    def test_no_form(self):
        for form in (
            (0, 0, 0), (0, 0, 1), (1, 0, 0), (-1, 0, -1), (-1, 0, 1), (1, 0, -1), (1, 1, 1), (4, 2, 1), (2, 3, 4),
            (1, -1, 1),
            (-2, 1, -2), (0, 1, 0), (0, -1, 5), (-5, 0, -7), (HUNDRED_NINES, HUNDRED_NINES, HUNDRED_NINES),
            (-HUNDRED_NINES, 0, -HUNDRED_NINES), (1, HUNDRED_NINES, 1), (9, 6, 4), (9, -6, 4), (-3, 2, 100),
        ):
            with self.subTest(form=form):
                self.refused(NoForm, least_form, *form)

    def test_an_edge(self):
        self.check((2, 1, 1))
        self.check((9, 6, 5))
        self.assertEqual(Fraction(self.check((10 ** 50, 10 ** 50 - 1, 10 ** 50))[0]), 2)


if __name__ == "__main__":
    unittest.main()
