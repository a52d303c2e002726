"""crystalwords.desk."""

import random
import unittest

from crystalwords.cells import changed, least_cell, moves
from crystalwords.changes import change
from crystalwords.deeds import moved
from crystalwords.desk import Desk
from crystalwords.errors import (
    CrystalError, NoChange, NoDeed, NoDrawing, NoName, NoNumber, NoPlace, NoRow, NoSheet, NotKept, NotLeast, NoText,
    OffSheet, TooMany,
)
from crystalwords.found import found_group, spread
from crystalwords.gathered import alike
from crystalwords.kinds import kind_of
from crystalwords.seventeen import told_group
from crystalwords.texts import read, read_place, shown
from group_samples import GROUPS, SEVENTEEN, group_told
from samples import ROWS

KEPT = (
    "group turns 2 -y,x", "group square 2 -y,x -x,y", "group none 2", "group centred 2 x+1/2,y+1/2 -x,y",
    "group space 3 z,x,y", "group fine 2 x+1/7,y", "group odd 3 -x,-y,z+1/2", "draw chess ab/ba", "draw one a",
    "draw wide abc/cab", "draw x ab/cd",
)

# Signs that part rows or words elsewhere; here only the blank parts words.
LINE_ENDS = ("\n", "\r", "\r\n", "\n\n", "\t", "\v", "\f", "\x1c", "\x85", "\u00a0", "\u2028", "\u2029")
# What is asked for at rows with such a sign in the place of |.
LINE_END_ROWS = {
    NoRow: (
        "|", "|size turns", "size|turns", "size| turns", "size turns|size turns", "size turns |", "| size turns",
        "kind|", "kind|x,y", "member turns 1|", "member turns |1", "member turns 1|0", "group a 2|", "group a |2",
        "group a 2| -y,x", "group A 2|", "spread new turns 1| 1 a", "spread new turns 1 |1 a", "draw new|ab",
        "base new turns 1,0 0,1|0,0", "find new chess|plain", "lead turns 0,0|0,0", "same turns|turns",
        "spread nothing| nothing 1 1| a",
    ),
    NoName: (
        "size turns|", "size |turns", "size tu|rns", "group new| 2", "group |new 2 bad", "member turns| 0",
        "has turns| x,y|", "alike turns| 0,0", "lead turns| 0,0 0,0|", "in turns| turns", "in turns turns|",
        "cell new| turns", "cell new turns|", "base new| turns 1,0 0,1 0,0", "base new |turns 1,0 0,1 0,0|",
        "settle turns|", "same turns| turns", "same turns turns|", "draw new| ab", "draw new| ab|", "show chess|",
        "lay chess| x,y", "find new| chess plain|", "find new chess| plain|", "spread new| turns 1 1 a|",
        "spread new turns| 1 1 a|", "spread new turns| 0 0 a", "size chess|", "size |",
    ),
    NoText: (
        "has turns x,y|", "has turns |x,y", "has turns x|,y", "kind x,y|", "kind |", "kind |x,y", "kind x,|y",
        "group new 2 -y,x|", "group new 2 |-y,x", "group new 2 -y,x| x,y", "group new 5 -y,x|", "group new 2 -y,x |",
        "alike turns 0,0|", "alike turns |0,0", "alike turns 0,0,0|", "lead turns 0,0| 0,0", "lead turns 0,0 0,0|",
        "lead turns 0,0,0 0,|0", "base new turns 1,0| 0,1 0,0", "base new turns 1,0 0,1 0,0|",
        "base new turns 1,0 0,1 0,0 0,0|", "lay chess x,y|", "lay chess |x,y", "lay chess x,y,z|",
    ),
    NoDrawing: (
        "draw new ab|", "draw new |ab", "draw new ab|ba", "draw new ab/|ba", "draw new |", "spread new turns 2 2 ab|",
        "spread new turns 2 2 |ab", "spread new turns 2 2 a|b", "spread new turns 2 2 |", "spread new turns 2 3 ab|",
        "spread new space 1 1 a|",
    ),
    NoSheet: ("find new chess plain|", "find new chess |plain", "find new chess |", "find new wide squ|are"),
}


def desk_told():
    desk = Desk()
    for row in KEPT:
        assert desk.say(row) == "ok"
    return desk


def rows_that_show(desk, names):
    """All that can be seen of what names stand for."""
    seen = []
    for name in names:
        try:
            size = int(desk.say(f"size {name}"))
            seen.append((name, [desk.say(f"member {name} {k}") for k in range(size)]))
        except NoName:
            try:
                seen.append((name, desk.say(f"show {name}")))
            except NoName:
                seen.append((name, None))
    return seen


NAMES = [row.split()[1] for row in KEPT] + ["new", "other", "a", "b"]


class DeskCase(unittest.TestCase):
    def setUp(self):
        self.desk = desk_told()

    def says(self, row, wanted):
        told = self.desk.say(row)
        self.assertIs(type(told), str)
        self.assertEqual(told, wanted, row)

    def refused(self, wanted, row):
        """The row is refused, and everything stands as it stood."""
        before = rows_that_show(self.desk, NAMES)
        with self.subTest(row=row):
            with self.assertRaises(CrystalError) as caught:
                self.desk.say(row)
            self.assertIs(type(caught.exception), wanted)
            self.assertEqual(rows_that_show(self.desk, NAMES), before)

    def members(self, name):
        return [self.desk.say(f"member {name} {k}") for k in range(int(self.desk.say(f"size {name}")))]


class Groups(DeskCase):
    def test_group_size_and_member(self):
        for d, text, count in GROUPS:
            self.says(" ".join(["group", "new", str(d)] + text.split()), "ok")
            self.says("size new", str(count))
            self.assertEqual(self.members("new"), [shown(one) for one in group_told(d, text).members()])
        self.says("group a 2", "ok")
        self.says("group abcdefgh 3", "ok")
        self.says("size a", "1")
        self.says("member abcdefgh 0", "x,y,z")
        self.says("member turns 1", "-y,x")

    def test_member_beyond(self):
        for row in ("member turns 4", "member none 1", "member turns 999999999", "member space 3"):
            self.refused(NoNumber, row)

    def test_has(self):
        for row, wanted in (
            ("has turns -y,x", "yes"), ("has turns -y+5,x-7", "yes"), ("has turns -x,y", "no"),
            ("has turns x+1/2,y", "no"), ("has turns -y,x,z", "no"), ("has space z,x,y", "yes"),
            ("has space x,y", "no"), ("has none x+9,y", "yes"), ("has fine x-3/7,y+2", "yes"),
            ("has none -x,-y", "no"),
        ):
            self.says(row, wanted)

    def test_kind(self):
        for row, wanted in (
            ("kind x,y", "still 1 1"), ("kind x+1/2,y", "move 1 0"), ("kind -y,x", "turn 4 4"),
            ("kind -x,-y,z+1/2", "screw 2 0"), ("kind -x,y", "mirror 2 2"), ("kind -x,y+1/2", "slide 2 0"),
            ("kind -x,-y,-z", "point 1 2"), ("kind y,-x,-z", "twist 4 4"), ("kind x+y,y", "endless 0 0"),
            ("kind -z,-x,-y", "twist 3 6"), ("kind -y,x-y,z+1/3", "screw 3 0"),
        ):
            self.says(row, wanted)
        for rows in ROWS:
            one = (rows, (0,) * len(rows), 1)
            kind = kind_of(one)
            self.says(f"kind {shown(one)}", f"{kind.word()} {kind.fold()} {kind.order()}")

    def test_alike(self):
        for row, wanted in (
            ("alike turns 0,0", "1"), ("alike turns 1/2,0", "2"), ("alike turns 1/3,1/5", "4"),
            ("alike space 1/2,0,0", "3"), ("alike space 5,5,-9", "1"), ("alike none 1/7,3", "1"),
            ("alike fine 0,0", "7"), ("alike square -1/3,7", "4"),
        ):
            self.says(row, wanted)
        for d, text, count in GROUPS[::4]:
            self.says(" ".join(["group", "new", str(d)] + text.split()), "ok")
            spot = "1/3,1/5" if d == 2 else "1/3,1/5,0"
            self.says(f"alike new {spot}", str(len(alike(group_told(d, text), read_place(spot)))))

    def test_lead(self):
        for name, one, other in (
            ("turns", "1/3,0", "0,4/3"), ("turns", "0,0", "7,-5"), ("space", "1/2,0,0", "0,0,3/2"),
            ("fine", "0,0", "-4/7,1"), ("square", "1/5,1/7", "1/7,1/5"), ("none", "1/9,0", "10/9,-3"),
        ):
            told = self.desk.say(f"lead {name} {one} {other}")
            self.assertEqual(moved(read(told), read_place(one)), read_place(other))
            self.says(f"has {name} {told}", "yes")
        for row in ("turns 0,0 1/2,0", "none 0,0 1/2,0", "space 0,0,0 1/2,0,0", "turns 1/5,1/7 1/7,1/5"):
            self.says(f"lead {row}", "none")
        self.says("lead none 1/9,0 10/9,-3", "x+1,y-3")

    def test_in(self):
        for row, wanted in (
            ("in turns square", "yes"), ("in square turns", "no"), ("in none fine", "yes"), ("in fine none", "no"),
            ("in turns turns", "yes"), ("in space space", "yes"), ("in space odd", "no"),
        ):
            self.says(row, wanted)
        self.refused(NoDeed, "in turns space")
        self.refused(NoDeed, "in odd none")

    def test_cell(self):
        for name, text in (("turns", "-y,x"), ("centred", "x+1/2,y+1/2 -x,y"), ("fine", "x+1/7,y"), ("none", "")):
            self.says(f"cell new {name}", "ok")
            group = group_told(2, text)
            wanted = changed(group, least_cell(group))
            self.assertEqual(self.members("new"), [shown(one) for one in wanted.members()])
            self.assertEqual(len(moves(wanted)), 1)
        self.says("cell centred centred", "ok")
        self.says("size centred", "2")

    def test_base(self):
        for row, name, count in (
            ("base new turns 1,1 -1,1 0,0", "turns", 8), ("base new none 2,0 0,3 1/2,1/2", "none", 6),
            ("base new centred 1/2,1/2 -1/2,1/2 0,0", "centred", 2),
            ("base new space 0,1,1 1,0,1 1,1,0 1/4,1/4,1/4", "space", 6),
            ("base new turns 1,0 0,1 1/3,1/5", "turns", 4), ("base new odd 1,0,0 0,1,0 0,0,1 1/5,1/7,0", "odd", 2),
            ("base turns turns 5,0 0,5 0,0", "turns", 100),
        ):
            words = row.split()
            spots = [read_place(word) for word in words[3:]]
            group = dict((line.split()[1], line) for line in KEPT)[name].split()
            wanted = changed(group_told(int(group[2]), " ".join(group[3:])), change(spots[:-1], spots[-1]))
            self.says(row, "ok")
            self.says(f"size {words[1]}", str(count))
            self.assertEqual(self.members(words[1]), [shown(one) for one in wanted.members()])

    def test_base_refused(self):
        for wanted, row in (
            (NoPlace, "base new turns 1,0 0,1 0,0 0,0"), (NoPlace, "base new space 1,0,0 0,1,0 0,0,1"),
            (NoPlace, "base new turns 1,0,0 0,1,0 0,0,1 0,0,0"), (NoPlace, "base new space 1,0 0,1 0,0"),
            (NoPlace, "base new turns 1,0 0,1 0,0,0"), (NoPlace, "base new turns 1,0,0 0,1 0,0"),
            (NoPlace, "base new space 1,0,0 0,1,0 0,0,1 0,0"), (NoPlace, "base new turns 0,0 0,0 0,0,0"),
            (NoChange, "base new turns 1,0 1,0 0,0"), (NoChange, "base new turns 0,0 0,1 0,0"),
            (NotKept, "base new turns 2,0 0,1 0,0"), (NotKept, "base new turns 1/2,1/2 -1/2,1/2 0,0"),
            (TooMany, "base new turns 8,0 0,8 0,0"), (TooMany, "base new none 201,0 0,1 0,0"),
            (NoText, "base new turns 1,0 0,1 0,0 0,0x"), (NoText, "base new turns 1,0,0 0,1 0,x"),
            (NoText, "base new space 1,0 0,1 00,0"), (NoName, "base New turns 1,0 0,1 0,0 x"),
            (NoName, "base new nothing 1,0 0,1 0,0 0,0"), (NoName, "base new chess x y z"),
        ):
            self.refused(wanted, row)

    def test_settle(self):
        for number, (text, marks) in SEVENTEEN.items():
            self.says(" ".join(["group", "new", "2"] + text.split()), "ok")
            told = self.desk.say("settle new").split(" ")
            self.assertEqual(len(told), 4)
            self.assertEqual(told[0], str(number))
            way = change([read_place(word) for word in told[1:3]], read_place(told[3]))
            self.assertEqual(changed(group_told(2, text), way).members(), told_group(number).members())
        self.says("group new 2 -x,y+1/2", "ok")
        self.assertRegex(self.desk.say("settle new"), r"\A4 -?[01],-?[01] -?[01],-?[01] \S+,\S+\Z")

    def test_same(self):
        self.says("group a 2 -x,y", "ok")
        self.says("group b 2 x,-y+1/3", "ok")
        for row, wanted in (("same a b", "yes"), ("same b a", "yes"), ("same a a", "yes"), ("same a turns", "no"),
                            ("same square turns", "no"), ("same none none", "yes")):
            self.says(row, wanted)

    def test_not_least(self):
        for row in (
            "settle fine", "settle space", "settle centred", "same turns fine", "same fine turns", "same space space",
            "same none odd", "same centred centred",
        ):
            self.refused(NotLeast, row)


class Drawings(DeskCase):
    def test_draw_and_show(self):
        for text in ("a", ".", "ab/ba", "abcdef/ghijkl/mnopqr/stuvwx/yz..../......"):
            self.says(f"draw new {text}", "ok")
            self.says("show new", text)

    def test_lay(self):
        for row, wanted in (
            ("lay chess x+1/2,y+1/2", "yes"), ("lay chess x+1/2,y", "no 0 0"), ("lay x y,x", "no 0 1"),
            ("lay x -x,y", "yes"), ("lay wide x+1/2,y+1/3", "no 1 0"), ("lay wide x,-y", "no 0 1"),
            ("lay one -y,x+7", "yes"),
        ):
            self.says(row, wanted)
        for row in ("lay one x+1/2,y", "lay chess x,y,z", "lay wide -y,x", "lay chess x+1/3,y"):
            self.refused(OffSheet, row)

    def test_find(self):
        for name, sheet, text in (
            ("chess", "square", "ab/ba"), ("chess", "sixty", "ab/ba"), ("one", "sixty", "a"),
            ("wide", "oblong", "abc/cab"), ("x", "plain", "ab/cd"),
        ):
            self.says(f"find new {name} {sheet}", "ok")
            wanted = found_group(tuple(text.split("/")), sheet)
            self.assertEqual(self.members("new"), [shown(one) for one in wanted.members()])
        self.says("find chess chess square", "ok")
        self.says("size chess", "16")
        self.refused(NoSheet, "find new wide square")
        self.refused(NoSheet, "find new wide sixty")
        self.refused(NoSheet, "find new x hexagon")
        self.refused(NoSheet, "find new x PLAIN")
        self.says("draw b " + "/".join(["aaaaaa"] * 6), "ok")
        self.refused(NoSheet, "find new b square")

    def test_spread(self):
        for row, text, size, signs in (
            ("spread new turns 2 2 xyz", "-y,x", (2, 2), "xyz"), ("spread new none 6 5 ab", "", (6, 5), "ab"),
            ("spread new square 4 4 .o", "-y,x -x,y", (4, 4), ".o"), ("spread new fine 6 1 q", "", (6, 1), "q"),
        ):
            if row.split()[2] == "fine":
                self.refused(OffSheet, row)
            else:
                self.says(row, "ok")
                self.says("show new", "/".join(spread(group_told(2, text), size[0], size[1], signs)))
        for wanted, row in (
            (NoDrawing, "spread new turns 0 2 ab"), (NoDrawing, "spread new turns 2 7 ab"),
            (NoDrawing, "spread new turns 2 2 A"), (NoDrawing, "spread new turns 2 2 a/b"),
            (NoDrawing, "spread new space 999999999 1 a"), (OffSheet, "spread new space 1 1 a"),
            (OffSheet, "spread new turns 2 3 ab"), (NoDrawing, "spread new turns 2 3 a1"),
        ):
            self.refused(wanted, row)
        self.says("spread turns turns 2 2 xyz", "ok")
        self.says("show turns", "xy/yz")


class Names(DeskCase):
    def test_told_anew(self):
        self.says("group turns 2 -x,y", "ok")
        self.says("size turns", "2")
        self.says("draw chess abc", "ok")
        self.says("show chess", "abc")

    def test_told_anew_for_a_thing_of_the_other_sort(self):
        self.says("draw turns ab", "ok")
        self.says("show turns", "ab")
        self.refused(NoName, "size turns")
        self.says("group chess 3", "ok")
        self.says("size chess", "1")
        self.refused(NoName, "show chess")
        self.says("spread none none 1 1 a", "ok")
        self.says("find none none plain", "ok")
        self.says("size none", "2")

    def test_two_desks_beside_one_another(self):
        one, other = Desk(), Desk()
        self.assertEqual(one.say("group a 2 -y,x"), "ok")
        with self.assertRaises(NoName):
            other.say("size a")
        self.assertEqual(other.say("draw a ab"), "ok")
        self.assertEqual((one.say("size a"), other.say("show a")), ("4", "ab"))

    def test_altering_what_a_group_was_made_of(self):
        self.says("cell new turns", "ok")
        self.says("group turns 2", "ok")
        self.says("size new", "4")

    def test_no_name(self):
        for word in (
            "A", "aB", "abcdefghi", "a1", "1", "a_b", "a-b", ".", "\u00e9", "a\u0301", "\uff41", "\u0131", "a/b",
            "x,y", "a\t", "abcdefghijklmnop",
        ):
            for row in (
                f"group {word} 2", f"size {word}", f"member {word} 0", f"has {word} x,y", f"alike {word} 0,0",
                f"lead {word} 0,0 0,0", f"in {word} turns", f"in turns {word}", f"cell {word} turns",
                f"cell new {word}", f"base {word} turns 1,0 0,1 0,0", f"base new {word} 1,0 0,1 0,0", f"settle {word}",
                f"same {word} turns", f"same turns {word}", f"draw {word} ab", f"show {word}", f"lay {word} x,y",
                f"find {word} chess plain", f"find new {word} plain", f"spread {word} turns 1 1 a",
                f"spread new {word} 1 1 a",
            ):
                with self.subTest(row=row), self.assertRaises(CrystalError) as caught:
                    self.desk.say(row)
                self.assertIs(type(caught.exception), NoName)

    def test_names_that_stand_for_nothing_or_for_the_other_sort(self):
        for word in ("nothing", "chess"):
            for row in (
                f"size {word}", f"member {word} 0", f"has {word} x,y", f"alike {word} 0,0", f"lead {word} 0,0 0,0",
                f"in {word} turns", f"in turns {word}", f"cell new {word}", f"base new {word} 1,0 0,1 0,0",
                f"settle {word}", f"same {word} turns", f"same turns {word}", f"spread new {word} 1 1 a",
            ):
                self.refused(NoName, row)
        for word in ("nothing", "turns"):
            for row in (f"show {word}", f"lay {word} x,y", f"find new {word} plain"):
                self.refused(NoName, row)


class Refused(DeskCase):
    def test_no_row(self):
        for row in (
            "", " ", "  ", "groups a 2", "Group a 2", "GROUP a 2", "close", "help", "sizes turns", "tell turns",
            "turns", "size", "kind", "group", "group a", "size turns turns", "member turns", "member turns 1 2",
            "has turns", "has turns x,y x,y", "kind x,y x,y", "alike turns", "alike turns 0,0 0,0", "lead turns 0,0",
            "lead turns 0,0 0,0 0,0", "in turns", "in turns turns turns", "cell new", "cell new turns turns",
            "base new turns", "base new turns 1,0 0,1", "base new turns 1,0 0,1 0,0 0,0 0,0", "base new", "settle",
            "settle turns turns", "same turns", "same turns turns turns", "draw new", "draw new ab ba", "show",
            "show chess chess", "lay chess", "lay chess x,y x,y", "find new chess", "find new chess plain plain",
            "spread new turns 1 1", "spread new turns 1 1 a a", "spread new turns 1",
        ):
            self.refused(NoRow, row)

    def test_blanks(self):
        for row in (
            " size turns", "size turns ", "size  turns", "group  a 2", "group a 2 ", "group a 2  -y,x", " kind x,y",
            "kind x,y ", "draw new  ab", "size turns \n ", "size turns\n ", " size turns\n", "size  \nturns",
        ):
            self.refused(NoRow, row)

    def test_line_ends_belong_to_their_words(self):
        for end in LINE_ENDS:
            for wanted, rows in LINE_END_ROWS.items():
                for row in rows:
                    self.refused(wanted, row.replace("|", end))

    def test_what_is_no_text(self):
        for row in (None, 0, 1, True, ["size", "turns"], ("size", "turns"), {}, b"size turns", ["size turns"]):
            self.refused(NoRow, row)

    def test_numbers(self):
        for word in (
            "00", "01", "007", "1234567890", "0000000000", "-1", "+1", "-0", "1.0", "1e3", "x", "1x", "one", "\u0661",
            "\uff11", "\u00b2", "1_000", "0x1", "1,2", "1/2",
        ):
            for row in ("member turns N", "group a N", "group a N x,y", "spread a turns N 1 a", "spread a turns 1 N a"):
                self.refused(NoRow, row.replace("N", word))
        self.says("member turns 0", "-x,-y")
        self.refused(NoNumber, "member turns 123456789")

    def test_no_row_ahead_of_all_else(self):
        for row in (
            "member A x", "member nothing 01", "group A x", "group A 02 bad", "spread A B x 1 a",
            "spread new nothing 1 y A", "base A B", "lead A x", "draw A B C", "size A B", "group A 2 -y,x  x",
            "find A B", "kind", "member chess +1",
        ):
            self.refused(NoRow, row)

    def test_from_the_left_word_by_word(self):
        for wanted, row in (
            (NoName, "group A 2 bad"), (NoName, "group A 5 bad"), (NoText, "group a 5 bad"),
            (NoText, "group a 2 -y,x bad"), (NoText, "group a 2 x,y,z bad"), (NoText, "group a 2 x+y,y bad"),
            (NoDeed, "group a 5 -y,x"), (NoDeed, "group a 0"), (NoDeed, "group a 1"), (NoDeed, "group a 4"),
            (NoDeed, "group a 999999999"), (NoDeed, "group a 2 x,y,z"), (NoDeed, "group a 3 x,y"),
            (NoDeed, "group a 2 x+y,y x,y,z"), (NoDeed, "group a 4 x+y,y"), (TooMany, "group a 2 x+y,y"),
            (TooMany, "group a 2 x+1/201,y"), (NoName, "has nothing bad"), (NoName, "has chess bad"),
            (NoText, "has turns bad"), (NoText, "kind bad"), (NoText, "kind 2x,y"), (NoText, "kind x"),
            (NoText, "kind x,y,z,x"), (NoText, "kind +x,y"), (NoName, "alike nothing bad"),
            (NoText, "alike turns bad"), (NoText, "alike turns 0"), (NoText, "alike turns 0,0,0,0"),
            (NoPlace, "alike turns 0,0,0"), (NoPlace, "alike space 0,0"), (NoText, "lead turns 0,0,0 bad"),
            (NoText, "lead turns bad 0,0,0"), (NoPlace, "lead turns 0,0 0,0,0"), (NoPlace, "lead turns 0,0,0 0,0"),
            (NoPlace, "lead space 0,0 0,0"), (NoName, "lead chess 0,0,0 bad"), (NoName, "cell A nothing"),
            (NoName, "cell new nothing"), (NoName, "draw A 1"), (NoDrawing, "draw a 1"), (NoDrawing, "draw a ab/c"),
            (NoDrawing, "draw a /"), (NoDrawing, "draw a aaaaaaa"), (NoName, "lay turns bad"),
            (NoText, "lay chess bad"), (NoText, "lay chess x,y,z,w"), (NoName, "find A chess nosheet"),
            (NoName, "find new turns nosheet"), (NoSheet, "find new chess nosheet"), (NoName, "spread A turns 0 0 A"),
            (NoName, "spread new chess 0 0 A"), (NoDrawing, "spread new turns 0 0 A"), (NoName, "in nothing chess"),
            (NoName, "in turns chess"), (NoName, "same fine chess"), (NoName, "same chess fine"),
            (NoText, "base new turns x,y 0,0 0,0"), (NoText, "has turns -y,x-"), (NoText, "has turns y+1/02,x"),
        ):
            self.refused(wanted, row)

    def test_refused_rows_change_nothing(self):
        before = rows_that_show(self.desk, NAMES)
        for row in (
            "group turns 2 x+y,y", "group turns 2 x,y,z", "group turns 7", "group chess 2 bad", "draw turns A",
            "draw chess ab/c", "cell turns chess", "base turns turns 2,0 0,1 0,0", "base chess turns 8,0 0,8 0,0",
            "find turns wide square", "find chess chess nosheet", "spread turns turns 0 0 a",
            "spread chess turns 2 3 ab", "base turns turns 1,0 1,0 0,0", "base turns turns 1,0 0,1 0,0,0",
        ):
            with self.subTest(row=row), self.assertRaises(CrystalError):
                self.desk.say(row)
            self.assertEqual(rows_that_show(self.desk, NAMES), before)

    def test_drawn_rows(self):
        # Whatever is said, it is answered with a text or refused.
        chance = random.Random(110)
        words = (
            "group size member has kind alike lead in cell base settle same draw show lay find spread "
            "turns chess new none space fine x,y -y,x bad 0,0 1,0 0,1 0,0,0 1/2,0 2 3 0 7 01 "
            "ab ab/ba plain square A x x,y,z -x,-y,-z one"
        ).split() + [""]
        met = set()
        for trial in range(4000):
            others = [chance.choice(words[17:]) for k in range(chance.randint(0, 5))]
            row = " ".join([chance.choice(words[:17])] + others)
            desk = desk_told() if trial % 200 == 0 else desk
            try:
                self.assertIs(type(desk.say(row)), str)
                met.add("text")
            except CrystalError as error:
                met.add(type(error))
        self.assertGreaterEqual(len(met), 6)


if __name__ == "__main__":
    unittest.main()
