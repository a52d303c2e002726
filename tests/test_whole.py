"""The whole program: what its parts promise together."""

import os
import random
import subprocess
import sys
import unittest
from pathlib import Path

from crystalwords.cells import changed, least_cell, moves
from crystalwords.changes import back_change, new_place
from crystalwords.deeds import behind, moved, rest, still
from crystalwords.desk import Desk
from crystalwords.drawings import lays, read_drawing
from crystalwords.found import found_group, sheet_turns, spread
from crystalwords.gathered import alike, gathered, leading, own
from crystalwords.groups import group_of
from crystalwords.marks import unlike
from crystalwords.parts import both, common, halves, lacks, shares
from crystalwords.places import rest_place
from crystalwords.seventeen import told_group
from crystalwords.settle import same, settle
from crystalwords.texts import show_place
from group_samples import SEVENTEEN, all_groups, group_told, small_spots, state, whole_change
from samples import all_whole, lists_within, no_list_twice

# A drawing, a sheet, how many deeds lay it on itself, and which of the seventeen it is in its least cell.
PICTURES = (
    ("abcdef/ghijkl/mnopqr/stuvwx/yz.abc/defghi", "plain", 1, 1),
    ("abccb/defgh/ijklm/imlkj/dhgfe", "square", 2, 2),
    ("abcdef/ghijkl/mnopqr/stuvwx/mnopqr/ghijkl", "oblong", 2, 3),
    ("abcabc/defghi/jkljkl/ghidef", "oblong", 2, 4),
    ("abcde/bfghi/cgjkl/dhkmn/eilno", "square", 2, 5),
    ("abc/bde/cef", "sixty", 2, 5),
    ("abccb/deffe/ghiih/ghiih/deffe", "square", 4, 6),
    ("abcdcb/efghij/abcdcb/ejihgf", "oblong", 4, 7),
    ("abcdcb/efgefg/dcbabc/egfegf", "oblong", 4, 8),
    ("abcb/dede/cbab/dede", "square", 8, 9),
    ("abccb/bdefd/cfgge/ceggf/bdfed", "square", 4, 10),
    ("abcb/bdbd/cbab/bdbd", "square", 16, 11),
    ("ab/ba", "square", 16, 11),
    ("a", "square", 8, 11),
    ("abc/bcd/ceb", "sixty", 3, 13),
    ("abb/bbc/bdb", "sixty", 6, 14),
    ("abcd/bdee/cece/deeb", "sixty", 6, 15),
    ("a", "sixty", 12, 17),
    ("aaaa/aaaa/aaaa/aaaa", "sixty", 192, 17),
    ("abcd/cdab", "plain", 2, 1),
    ("aabb/bbaa", "oblong", 8, 9),
)
ANSWERS = """
from crystalwords.cells import changed, least_cell
from crystalwords.desk import Desk
from crystalwords.found import found_group
from crystalwords.groups import Group
from crystalwords.parts import common, halves, shares
from crystalwords.settle import settle
from crystalwords.texts import read
group = Group(2, [read("-y,x"), read("-x,y"), read("x+1/2,y+1/2")])
inner = changed(group, least_cell(group))
found = found_group(("ab", "ba"), "square")
desk = Desk()
rows = ["group a 2 x-y,x y,x", "settle a", "lead a 1/3,0 0,1/3", "member a 3"]
print(group.members(), group.words(), inner.makers(), settle(inner), found.makers(), found.words())
print(common(group, found).makers(), halves(group), shares(group, found), [desk.say(row) for row in rows])
"""


class Desks(unittest.TestCase):
    def test_a_drawing_is_led_to_its_number_by_rows(self):
        for text, sheet, size, number in PICTURES:
            with self.subTest(text=text, sheet=sheet):
                desk = Desk()
                self.assertEqual(desk.say(f"draw picture {text}"), "ok")
                self.assertEqual(desk.say(f"find found picture {sheet}"), "ok")
                self.assertEqual(desk.say("size found"), str(size))
                for k in range(size):
                    self.assertEqual(desk.say(f"lay picture {desk.say(f'member found {k}')}"), "yes")
                self.assertEqual(desk.say("cell least found"), "ok")
                self.assertEqual(desk.say("settle least").split()[0], str(number))
                told = SEVENTEEN[number][0].split()
                self.assertEqual(desk.say(" ".join(["group", "told", "2"] + told)), "ok")
                self.assertEqual(desk.say("same least told"), "yes")

    def test_another_base_alters_no_number(self):
        chance = random.Random(120)
        for number, (text, marks) in SEVENTEEN.items():
            desk = Desk()
            desk.say(" ".join(["group", "one", "2"] + text.split()))
            for way in [whole_change(chance, 2, bound, ((3, 1), 4)) for bound in (0, 1, 7, 10 ** 6)]:
                words = [show_place(spot) for spot in way[0] + (way[1],)]
                self.assertEqual(desk.say(" ".join(["base", "other", "one"] + words)), "ok")
                self.assertEqual(desk.say("settle other").split()[0], str(number))
                self.assertEqual(desk.say("same one other"), "yes")
                # By the change that was told the group is the told one.
                told = desk.say("settle other").split()[1:]
                self.assertEqual(desk.say(" ".join(["base", "third", "other"] + told)), "ok")
                self.assertEqual((desk.say("in third one"), desk.say("in one third")), ("yes", "yes"))

    def test_spread_and_found_again(self):
        desk = Desk()
        rows = ("group a 2 -y,x", "spread p a 5 5 abcdefghij", "find b p square", "in a b", "in b a", "size b")
        self.assertEqual([desk.say(row) for row in rows], ["ok", "ok", "ok", "yes", "yes", "4"])


class Parts(unittest.TestCase):
    def test_groups_are_closed(self):
        chance = random.Random(121)
        for text, group in all_groups():
            way = whole_change(chance, group.axes(), 9)
            for one in (changed(group, least_cell(group)), changed(group, way), common(group, group)):
                members = one.members()
                self.assertEqual(members, sorted(set(members)))
                for k in range(0, len(members), 7):
                    self.assertEqual(members[one.product(k, one.back_of(k))], still(one.axes()))
                for word, member in zip(one.words(), members):
                    self.assertEqual(word_done(one, word), member)

    def test_alike_places_in_another_base(self):
        chance = random.Random(122)
        for text, group in list(all_groups())[::3]:
            way = whole_change(chance, group.axes(), 5)
            other = changed(group, way)
            for spot in small_spots(group.axes())[::3]:
                there = sorted(rest_place(new_place(pair[0], way)) for pair in alike(group, spot))
                self.assertEqual([pair[0] for pair in alike(other, new_place(spot, way))], there)
                self.assertEqual(len(own(other, new_place(spot, way))), len(own(group, spot)))
                for reached, number in alike(group, spot):
                    self.assertEqual(moved(leading(group, spot, reached), spot), reached)

    def test_just_one_of_same_and_unlike(self):
        chance = random.Random(123)
        groups = [changed(told_group(number), whole_change(chance, 2, 20)) for number in SEVENTEEN]
        for one in groups:
            for other in groups:
                self.assertNotEqual(same(one, other) is None, unlike(one, other) is None)

    def test_changed_and_changed_back(self):
        for text, group in all_groups():
            cell = least_cell(group)
            inner = changed(group, cell)
            self.assertEqual(len(moves(inner)), 1)
            self.assertEqual(changed(inner, back_change(cell)).members(), group.members())

    def test_shares_and_halves_go_together(self):
        for text, group in all_groups():
            for way in halves(group)[:4]:
                kept = [member for member, sign in zip(group.members(), way) if sign == 1]
                half = group_of(group.axes(), kept)
                self.assertEqual(half.members(), kept)
                self.assertEqual(len(shares(group, half)), 2)
                self.assertIsNone(lacks(half, group))
                self.assertEqual(both(half, group).members(), group.members())

    def test_pictures(self):
        for text, sheet, size, number in PICTURES:
            drawing = read_drawing(text)
            group = found_group(drawing, sheet)
            self.assertTrue(all(lays(drawing, member) is None for member in group.members()))
            self.assertEqual(settle(changed(group, least_cell(group)))[0], number)
            # Places that are alike bear one sign, so the drawing that is spread has no more signs.
            told = spread(group, len(drawing), len(drawing[0]), "abcdefghijklmnopqrstuvwxyz.")
            for i, row in enumerate(told):
                for j, sign in enumerate(row):
                    others = [drawing[k][m] for k, line in enumerate(told) for m, one in enumerate(line) if one == sign]
                    self.assertIn(drawing[i][j], others)


def word_done(group, word):
    made = still(group.axes())
    for number in word:
        made = rest(behind(made, group.makers()[number]))
    return made


class Answers(unittest.TestCase):
    def told(self):
        group, part, spot = group_told(2, "-y,x -x,y"), group_told(2, "-x,-y"), ((1, 0), 3)
        return {
            "words": group.words(), "members": group.members(), "makers": group.makers(), "moves": moves(group),
            "alike": alike(group, spot), "own": own(group, spot), "gathered": gathered(group, [spot, ((0, 1), 3)]),
            "shares": shares(group, part), "halves": halves(group), "turns": sheet_turns("sixty"),
            "settle": settle(group), "least": least_cell(group), "changed": state(changed(group, least_cell(group))),
        }

    def test_whole_numbers_and_lists_of_their_own(self):
        one, other = self.told(), self.told()
        for name, thing in one.items():
            self.assertEqual(thing, other[name])
            self.assertTrue(no_list_twice(thing), name)
            lists = [{id(some) for some in lists_within(told[name])} for told in (one, other)]
            self.assertFalse(lists[0] & lists[1])
            if name != "changed":
                self.assertTrue(all_whole(thing), name)

    def test_told_lists_that_are_altered_alter_nothing(self):
        wanted = self.told()
        for name, thing in self.told().items():
            for some in list(lists_within(thing)):
                some.append(None)
                some.reverse()
            self.assertEqual(self.told(), wanted, name)

    def test_no_chance_has_a_part(self):
        told = set()
        for seed in ("0", "1", "2026"):
            around = dict(os.environ, PYTHONHASHSEED=seed, PYTHONPATH=str(Path(__file__).resolve().parent.parent))
            call = [sys.executable, "-c", ANSWERS]
            told.add(subprocess.run(call, env=around, capture_output=True, text=True, check=True, timeout=120).stdout)
        self.assertEqual(len(told), 1)
        self.assertGreater(len(told.pop()), 500)


if __name__ == "__main__":
    unittest.main()
