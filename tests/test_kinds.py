"""crystalwords.kinds."""

import random
import unittest
from fractions import Fraction

from crystalwords import kinds
from crystalwords.deeds import again, back, behind, deed, move, moved, still
from crystalwords.kinds import Kind, kind_of, span
from crystalwords.places import place
from crystalwords.texts import read, read_place
from samples import (
    PLANE, ROWS, SPACE, all_whole, frozen, great_place, is_place, laplace, row_product, small_places, still_rows,
    thawed, unimodular, worth,
)

CLASSES = {
    "still": "Still", "move": "Move", "turn": "Turn", "screw": "Screw", "mirror": "Mirror", "slide": "Slide",
    "point": "Point", "twist": "Twist", "endless": "Endless",
}
STAYING = ("still", "turn", "mirror", "point", "twist")
LEAVING = ("move", "screw", "slide")

# A deed's text, its kind's word, its fold, its order, its slide.
WRITTEN = (
    ("x,y", "still", 1, 1, "0,0"),
    ("x,y,z", "still", 1, 1, "0,0,0"),
    ("x+1,y", "move", 1, 0, "1,0"),
    ("x-1/2,y+1/3", "move", 1, 0, "-1/2,1/3"),
    ("x,y,z-7/5", "move", 1, 0, "0,0,-7/5"),
    ("-x,-y", "turn", 2, 2, "0,0"),
    ("-x+1/2,-y-3", "turn", 2, 2, "0,0"),
    ("-y,x-y", "turn", 3, 3, "0,0"),
    ("-y+1,x-y+1/3", "turn", 3, 3, "0,0"),
    ("-y,x", "turn", 4, 4, "0,0"),
    ("-y+1/2,x", "turn", 4, 4, "0,0"),
    ("x-y,x", "turn", 6, 6, "0,0"),
    ("x-y,x-1/7", "turn", 6, 6, "0,0"),
    ("-x,-y,z", "turn", 2, 2, "0,0,0"),
    ("-x+1/2,-y,z", "turn", 2, 2, "0,0,0"),
    ("y,x,-z+1/2", "turn", 2, 2, "0,0,0"),
    ("z,x,y", "turn", 3, 3, "0,0,0"),
    ("z+1/2,x-1/2,y", "turn", 3, 3, "0,0,0"),
    ("-y,x+2/3,z", "turn", 4, 4, "0,0,0"),
    ("x-y,x,z", "turn", 6, 6, "0,0,0"),
    ("-x,-y,z+1/2", "screw", 2, 0, "0,0,1/2"),
    ("-x+1/2,-y,z+1", "screw", 2, 0, "0,0,1"),
    ("y+1/2,x,-z", "screw", 2, 0, "1/4,1/4,0"),
    ("-y,x-y,z+1/3", "screw", 3, 0, "0,0,1/3"),
    ("z,x,y+1", "screw", 3, 0, "1/3,1/3,1/3"),
    ("-y+1/2,x,z-3/4", "screw", 4, 0, "0,0,-3/4"),
    ("x-y,x,z+1/6", "screw", 6, 0, "0,0,1/6"),
    ("-x,y", "mirror", 2, 2, "0,0"),
    ("-x+1/2,y", "mirror", 2, 2, "0,0"),
    ("y,x", "mirror", 2, 2, "0,0"),
    ("y+1/2,x-1/2", "mirror", 2, 2, "0,0"),
    ("x,y,-z", "mirror", 2, 2, "0,0,0"),
    ("x,y,-z+1/3", "mirror", 2, 2, "0,0,0"),
    ("y-2,x+2,z", "mirror", 2, 2, "0,0,0"),
    ("-x,y+1/2", "slide", 2, 0, "0,1/2"),
    ("-x+1/2,y-1/2", "slide", 2, 0, "0,-1/2"),
    ("-x,y+1", "slide", 2, 0, "0,1"),
    ("y+1,x", "slide", 2, 0, "1/2,1/2"),
    ("x+1/2,y,-z", "slide", 2, 0, "1/2,0,0"),
    ("x+1/2,y-1/3,-z+1/4", "slide", 2, 0, "1/2,-1/3,0"),
    ("y,x,z+1/2", "slide", 2, 0, "0,0,1/2"),
    ("-x,-y,-z", "point", 1, 2, "0,0,0"),
    ("-x+1/2,-y-1/3,-z+5", "point", 1, 2, "0,0,0"),
    ("y,-x+y,-z", "twist", 3, 6, "0,0,0"),
    ("-z,-x,-y", "twist", 3, 6, "0,0,0"),
    ("-z+1/2,-x,-y+1/3", "twist", 3, 6, "0,0,0"),
    ("y,-x,-z", "twist", 4, 4, "0,0,0"),
    ("y+1/2,-x+1/3,-z+1/5", "twist", 4, 4, "0,0,0"),
    ("-x+y,-x,-z", "twist", 6, 6, "0,0,0"),
    ("-x+y,-x+1/2,-z+1/2", "twist", 6, 6, "0,0,0"),
    ("x+y,y", "endless", 0, 0, None),
    ("x+y,y+1/2", "endless", 0, 0, None),
    ("2x+y,x+y", "endless", 0, 0, None),
    ("2x+y+1/2,x+y", "endless", 0, 0, None),
    ("-x+y,-y", "endless", 0, 0, None),
    ("x+y,x", "endless", 0, 0, None),
    ("x+y+1,x", "endless", 0, 0, None),
    ("x+y,y,z+1/2", "endless", 0, 0, None),
    ("2x+y,x+y,z", "endless", 0, 0, None),
    ("2x+y,x+y,-z+1/2", "endless", 0, 0, None),
    ("2x+y,x+y,z+1", "endless", 0, 0, None),
    ("z,x+z,y", "endless", 0, 0, None),
    ("-x+7z,-y,-z", "endless", 0, 0, None),
)


def in_another_base(one, rows, undone):
    """The deed one, told in the base that the rows lead to."""
    way = deed(rows, [0] * len(rows), 1)
    told = behind(behind(deed(undone, [0] * len(rows), 1), one), way)
    return told


class Span(unittest.TestCase):
    def test_written_out(self):
        for spans in (PLANE, SPACE):
            for wanted, told in spans.items():
                for rows in told:
                    with self.subTest(rows=rows):
                        self.assertEqual(span(rows), wanted)
                        handed = thawed(rows)
                        self.assertEqual(span(handed), wanted)
                        self.assertEqual(handed, thawed(rows))
                        self.assertIs(type(span(rows)), int)

    def test_the_least_number_of_times(self):
        for rows in ROWS:
            reached, wanted = still_rows(len(rows)), 0
            for count in range(1, 30):
                reached = row_product(reached, rows)
                if reached == still_rows(len(rows)):
                    wanted = count
                    break
            self.assertEqual(span(rows), wanted)

    def test_another_base(self):
        chance = random.Random(40)
        for bound in (3, 10 ** 10, 10 ** 16):
            for rows in ROWS:
                to, undone = unimodular(chance, len(rows), bound, 3)
                told = row_product(row_product(to, rows), undone)
                with self.subTest(told=told):
                    self.assertEqual(span(told), span(rows))
                    self.assertEqual(span(frozen(told)), span(rows))

    def test_great_numbers(self):
        chance = random.Random(41)
        for rows in ROWS:
            to, undone = unimodular(chance, len(rows), 10 ** 30, 3)
            told = row_product(row_product(to, rows), undone)
            self.assertEqual(span(told), span(rows))
        self.assertEqual(span([[1, 10 ** 99], [0, 1]]), 0)
        self.assertEqual(span([[1, 10 ** 99], [0, -1]]), 2)


class KindCase(unittest.TestCase):
    def check_rest(self, one, told, word):
        self.assertIs(type(told), tuple)
        self.assertEqual(len(told), 2)
        d = len(one[0])
        if told[0] == "place":
            self.assertTrue(is_place(told[1], d))
            self.assertEqual(moved(one, told[1]), told[1])
            self.assertNotIn(word, LEAVING)
        else:
            self.assertEqual(told[0], "row")
            self.assertIs(type(told[1]), tuple)
            self.assertEqual(len(told[1]), d)
            self.assertTrue(all_whole(told[1]))
            less = [[a - int(i == k) for k, a in enumerate(row)] for i, row in enumerate(one[0])]
            self.assertFalse(any(row_product([told[1]], less)[0]))
            self.assertNotEqual(sum(y * top for y, top in zip(told[1], one[1])), 0)
            self.assertNotIn(word, STAYING)

    def check(self, one, word, fold, order, slide):
        own = getattr(kinds, CLASSES[word])
        for told in (kind_of(one), own(one)):
            self.assertIs(type(told), own)
            self.assertIsInstance(told, Kind)
            self.assertEqual(told.word(), word)
            self.assertEqual(told.fold(), fold)
            self.assertEqual(told.order(), order)
            self.assertEqual(told.slide(), slide)
            self.assertTrue(all_whole([told.fold(), told.order()]))
            self.assertTrue(slide is None or is_place(told.slide(), len(one[0])))
            self.check_rest(one, told.at_rest(), word)
        self.assertEqual(kind_of(one).at_rest(), own(one).at_rest())


class Nine(KindCase):
    def test_written_out(self):
        for text, word, fold, order, slide in WRITTEN:
            with self.subTest(text=text):
                self.check(read(text), word, fold, order, None if slide is None else read_place(slide))

    def test_each_kind_was_tried(self):
        plane = {row[1] for row in WRITTEN if row[0].count(",") == 1}
        space = {row[1] for row in WRITTEN if row[0].count(",") == 2}
        self.assertEqual(space, set(CLASSES))
        self.assertEqual(plane, set(CLASSES) - {"screw", "point", "twist"})

    def test_endless_deeds_that_stay_and_that_leave(self):
        self.assertEqual(kind_of(read("2x+y+1/2,x+y")).at_rest(), ("place", ((0, -1), 2)))
        self.assertEqual(kind_of(read("x+y+1/2,y")).at_rest()[0], "place")
        for text in ("x+y,y+1/2", "x+y,y,z+1/2", "2x+y,x+y,z+1"):
            self.assertEqual(kind_of(read(text)).at_rest()[0], "row", text)

    def test_in_another_base(self):
        chance = random.Random(42)
        for bound in (2, 10 ** 12):
            for text, word, fold, order, slide in WRITTEN:
                one = read(text)
                rows, undone = unimodular(chance, len(one[0]), bound, 3)
                told = in_another_base(one, rows, undone)
                way = deed(rows, [0] * len(rows), 1)
                with self.subTest(text=text, rows=rows):
                    self.check(told, word, fold, order, None if slide is None else moved(way, read_place(slide)))

    def test_at_another_spot(self):
        # A deed that is moved along as a whole is of the same kind, with the same slide.
        chance = random.Random(43)
        for text, word, fold, order, slide in WRITTEN:
            one = read(text)
            way = move(great_place(chance, len(one[0])))
            told = behind(behind(back(way), one), way)
            with self.subTest(text=text):
                self.check(told, word, fold, order, None if slide is None else read_place(slide))

    def test_by_their_words(self):
        for rows in ROWS:
            for tops, under in small_places(len(rows)):
                one = deed(rows, tops, under)
                with self.subTest(one=one):
                    self.check(one, *self.wanted(one))

    def wanted(self, one):
        """Word, fold, order and slide by the words of points 13 to 15."""
        rows, d = one[0], len(one[0])
        number = span(rows)
        turned = [[-a for a in row] for row in rows]
        straight = laplace(rows) == 1
        if number == 0:
            return "endless", 0, 0, None
        fold = number if straight else span(turned)
        far = again(one, number)
        slide = place(far[1], far[2] * number)
        orders = [count for count in range(1, 13) if again(one, count) == still(d)]
        order = orders[0] if orders else 0
        stays = not any(slide[0])
        if rows == still(d)[0]:
            return "still" if stays else "move", fold, order, slide
        if turned == still_rows(d) and not straight:
            return "point", fold, order, slide
        if straight:
            return "turn" if stays else "screw", fold, order, slide
        if fold == 2:
            return "mirror" if stays else "slide", fold, order, slide
        return "twist", fold, order, slide

    def test_the_slide_is_the_move_shared_out(self):
        for text in ("-x+1/2,y-1/2", "y+1/2,x,-z", "z,x,y+1", "x-y+1/3,x,z+5/6"):
            one = read(text)
            number = span(one[0])
            whole = [Fraction(number) * part for part in worth(kind_of(one).slide())]
            self.assertEqual(whole, worth(again(one, number)[1:]))


class Classes(unittest.TestCase):
    def test_each_stands_under_kind_and_under_no_other(self):
        self.assertEqual(len(CLASSES), 9)
        for name in CLASSES.values():
            own = getattr(kinds, name)
            self.assertTrue(issubclass(own, Kind))
            self.assertIsNot(own, Kind)
            for other in CLASSES.values():
                self.assertEqual(issubclass(own, getattr(kinds, other)), own is getattr(kinds, other))

    def test_the_deed_handed_in_stays(self):
        one = read("-y,x-y,z+1/3")
        told = kind_of(one)
        self.assertEqual((told.word(), told.fold(), told.order()), ("screw", 3, 0))
        self.assertEqual(told.slide(), ((0, 0, 1), 3))
        self.assertEqual(told.at_rest()[0], "row")
        self.assertEqual(one, read("-y,x-y,z+1/3"))


if __name__ == "__main__":
    unittest.main()
