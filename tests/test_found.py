"""crystalwords.found."""

import random
import unittest
from fractions import Fraction

from crystalwords.deeds import deed, rest
from crystalwords.drawings import lays
from crystalwords.errors import NoDrawing, NoSheet, OffSheet
from crystalwords.found import found_group, sheet_turns, spread
from crystalwords.groups import Group
from crystalwords.texts import read, shown
from drawing_samples import drawings, drawn, laid
from group_samples import CallCase, all_groups, group_told, state
from samples import done

SHEETS = {
    "plain": "-x,-y x,y",
    "oblong": "-x,-y -x,y x,-y x,y",
    "square": "-x,-y -x,y -y,-x -y,x y,-x y,x x,-y x,y",
    "sixty": "-x,-y -x,-x+y -x+y,-x -x+y,y -y,-x -y,x-y y,-x+y y,x x-y,-y x-y,x x,x-y x,y",
}
EVEN = ("square", "sixty")


def turns_of(sheet):
    return sorted(read(text)[0] for text in SHEETS[sheet].split())


def may_lie(drawing, sheet):
    n, m = len(drawing), len(drawing[0])
    return (n == m or sheet not in EVEN) and len(turns_of(sheet)) * n * m <= 200


class Turns(CallCase):
    def test_each_sheet(self):
        for sheet, count in (("plain", 2), ("oblong", 4), ("square", 8), ("sixty", 12)):
            told = self.called(sheet_turns, sheet)
            self.assertIs(type(told), list)
            self.assertEqual(told, turns_of(sheet))
            self.assertEqual(len(told), count)
            self.assertEqual(told, sorted(told))

    def test_altering_the_list_alters_nothing(self):
        for sheet in SHEETS:
            sheet_turns(sheet).clear()
            self.assertEqual(sheet_turns(sheet), turns_of(sheet))

    def test_no_sheet(self):
        for sheet in (
            "", "Plain", "plains", "plai", " plain", "plain ", "plain\n", "sixty sixty", "hexagon", "60", ".", "2",
            "SIXTY",
        ):
            self.refused(NoSheet, sheet_turns, sheet)
            self.refused(NoSheet, found_group, ("ab", "ba"), sheet)


class Found(CallCase):
    def check(self, drawing, sheet):
        n, m = len(drawing), len(drawing[0])
        told = self.called(found_group, drawing, sheet)
        self.assertIsInstance(told, Group)
        self.assertEqual(told.axes(), 2)
        deeds = [deed(rows, [i * m, j * n], n * m) for rows in turns_of(sheet) for i in range(n) for j in range(m)]
        self.assertEqual(told.members(), sorted(rest(one) for one in deeds if laid(drawing, one) is None))
        self.assertEqual(Group(2, told.makers()).members(), told.members())
        return told

    def test_every_sheet(self):
        for drawing in drawings():
            for sheet in SHEETS:
                with self.subTest(drawing=drawing, sheet=sheet):
                    if may_lie(drawing, sheet):
                        self.check(drawing, sheet)
                    else:
                        self.refused(NoSheet, found_group, drawing, sheet)

    def test_written_out(self):
        for text, sheet, wanted in (
            ("a", "plain", 2), ("a", "oblong", 4), ("a", "square", 8), ("a", "sixty", 12), ("ab", "plain", 2),
            ("aa", "plain", 4), ("ab/ba", "square", 16), ("abc/bca/cab", "plain", 3), ("ab/cd", "plain", 2),
            ("abc/def/ghi", "plain", 1), ("abc/def/ghi", "sixty", 1), ("abb/bbb/bbb", "sixty", 12),
            ("aaaa/aaaa/aaaa/aaaa", "sixty", 192), ("aaaaa/aaaaa/aaaaa/aaaaa/aaaaa", "square", 200),
            ("aaaaaa/aaaaaa/aaaaaa/aaaaaa/aaaaaa/aaaaaa", "oblong", 144),
        ):
            self.assertEqual(len(self.check(tuple(text.split("/")), sheet).members()), wanted)

    def test_members_written_out(self):
        told = [shown(one) for one in found_group(("ab",), "oblong").members()]
        self.assertEqual(told, ["-x,-y", "-x,y", "x,-y", "x,y"])
        told = [shown(one) for one in found_group(("ab", "ba"), "plain").members()]
        self.assertEqual(told, ["-x,-y", "-x+1/2,-y+1/2", "x,y", "x+1/2,y+1/2"])

    def test_unlike_numbers_of_rows_and_signs(self):
        for sheet in EVEN:
            for drawing in (("ab",), ("a", "b"), ("aba", "bab"), ("aaaaaa",), ("a",) * 6):
                self.refused(NoSheet, found_group, drawing, sheet)

    def test_more_than_two_hundred_deeds(self):
        chance = random.Random(103)
        for size, sheet in ((6, "square"), (5, "sixty"), (6, "sixty")):
            for signs in ("a", "abc"):
                self.refused(NoSheet, found_group, drawn(chance, size, size, signs), sheet)
        for size, sheet in ((5, "square"), (4, "sixty"), (6, "oblong"), (6, "plain")):
            self.check(drawn(chance, size, size, "a"), sheet)

    def test_altering_what_was_told_alters_nothing(self):
        told = found_group(("ab", "ba"), "square")
        wanted = state(told)
        told.members().clear()
        told.makers().clear()
        self.assertEqual(state(told), wanted)
        self.assertEqual(state(found_group(("ab", "ba"), "square")), wanted)


def spread_out(group, n, m, signs):
    """A drawing, or "off", by point 37's own words."""
    if group.axes() != 2:
        return "off"
    signed, count = {}, 0
    for i in range(n):
        for j in range(m):
            ends = [done(member, [Fraction(i, n), Fraction(j, m)]) for member in group.members()]
            ends = [(down * n, along * m) for down, along in ends]
            if any(number.denominator != 1 for end in ends for number in end):
                return "off"
            if (i, j) not in signed:
                signed.update({(int(end[0]) % n, int(end[1]) % m): signs[count % len(signs)] for end in ends})
                count += 1
    return tuple("".join(signed[i, j] for j in range(m)) for i in range(n))


class Spread(CallCase):
    def check(self, group, n, m, signs):
        wanted = spread_out(group, n, m, signs)
        if wanted == "off":
            self.refused(OffSheet, spread, group, n, m, signs)
        else:
            told = self.called(spread, group, n, m, signs)
            self.assertIs(type(told), tuple)
            self.assertEqual(told, wanted)
            for member in group.members():
                self.assertIsNone(lays(told, member))
        return wanted

    def test_by_its_definition(self):
        chance = random.Random(104)
        met = []
        for text, group in all_groups():
            for trial in range(8 if len(group.members()) < 50 else 2):
                n, m = chance.randint(1, 6), chance.choice((1, 2, 3, 4, 5, 6, 0))
                signs = chance.choice(("a", "ab", "abcdefghijklmnopqrstuvwxyz.", "...", "zyx"))
                with self.subTest(text=text, n=n, m=m or n, signs=signs):
                    met.append(self.check(group, n, m or n, signs))
        self.assertGreater(met.count("off"), 30)
        self.assertGreater(len(met) - met.count("off"), 60)

    def test_every_size(self):
        for text in (
            "", "-x,-y", "-x,y", "-x,y x,-y", "-y,x", "-y,x -x,y", "x-y,x y,x", "-x,y+1/2", "x+1/2,y+1/3 -x,-y -x,y",
        ):
            for n in range(1, 7):
                for m in range(1, 7):
                    self.check(group_told(2, text), n, m, "abcdefghijklmnopqrstuvwxyz." * 2)

    def test_written_out(self):
        for text, n, m, signs, wanted in (
            ("", 1, 1, "q", "q"), ("", 2, 3, "ab", "aba/bab"), ("", 2, 2, "abcd", "ab/cd"),
            ("", 2, 2, "abcdef", "ab/cd"), ("-y,x", 2, 2, "xyz", "xy/yz"), ("-x,-y", 1, 4, "abcd", "abcb"),
            ("x,y+1/2", 1, 6, "abcd", "abcabc"), ("x+1/2,y+1/2", 2, 2, "ab", "ab/ba"),
            ("-y,x", 3, 3, "a.", "a../.aa/.aa"), ("x-y,x y,x", 3, 3, "abc", "abb/bbc/bcb"),
        ):
            told = self.check(group_told(2, text), n, m, signs)
            self.assertEqual("/".join(told), wanted)

    def test_sixty_signs(self):
        signs = ("abcdefghijklmnopqrstuvwxyz." * 3)[:60]
        self.assertEqual(spread(group_told(2, ""), 6, 6, signs), tuple(signs[6 * k:6 * k + 6] for k in range(6)))

    def test_no_drawing(self):
        group = group_told(2, "-x,-y")
        for n, m in ((0, 1), (1, 0), (0, 0), (7, 1), (1, 7), (7, 7), (-1, 2), (2, -1), (10 ** 99, 1), (1, 10 ** 99),
        (8, 3)):
            self.refused(NoDrawing, spread, group, n, m, "ab")
        for signs in ("", "A", "ab1", "a b", " ", "a/b", "/", "ab\n", "\u00e9", "abC", "a,", "0", "-", "a" * 59 + "B"):
            self.refused(NoDrawing, spread, group, 2, 2, signs)

    def test_no_drawing_ahead_of_off_sheet(self):
        for group in (group_told(2, "x+1/7,y"), group_told(3, ""), group_told(3, "-y,x,z")):
            for n, m, signs in ((0, 1, "a"), (1, 7, "a"), (2, 2, ""), (2, 2, "A"), (0, 9, "")):
                self.refused(NoDrawing, spread, group, n, m, signs)

    def test_off_sheet(self):
        for d, text, n, m in (
            (3, "", 1, 1), (3, "-y,x,z", 2, 2), (3, "x+1/2,y,z", 2, 2), (2, "x+1/2,y", 1, 1), (2, "x+1/2,y", 3, 2),
            (2, "x+1/7,y", 6, 6),
            (2, "-y,x", 2, 3), (2, "y,x", 1, 6), (2, "x-y,x", 2, 1), (2, "-x+1/3,-y+1/5", 3, 4), (2, "-x,y+1/2", 2, 3),
        ):
            with self.subTest(text=text, n=n, m=m):
                self.refused(OffSheet, spread, group_told(d, text), n, m, "ab")
                self.assertEqual(spread_out(group_told(d, text), n, m, "ab"), "off")

    def test_the_group_found_has_all_members(self):
        for text, n, sheet in (("-y,x", 4, "square"), ("x-y,x", 4, "sixty"), ("-x,y+1/2", 4, "oblong"),
        ("-x,-y", 5, "plain")):
            group = group_told(2, text)
            drawing = spread(group, n, n, "abcdefghijklmnopqrstuvwxyz.")
            found = found_group(drawing, sheet)
            self.assertTrue(all(found.at(member) is not None for member in group.members()))


if __name__ == "__main__":
    unittest.main()
