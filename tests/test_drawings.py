"""crystalwords.drawings."""

import random
import unittest

from crystalwords.deeds import deed
from crystalwords.drawings import lays, read_drawing, show_drawing
from crystalwords.errors import NoDrawing, OffSheet
from crystalwords.texts import read
from drawing_samples import WRITTEN, drawings, drawn, laid
from group_samples import CallCase
from samples import HUNDRED_NINES, PLANE, SPACE


class Texts(CallCase):
    def test_one_to_six_rows_of_one_to_six_signs(self):
        chance = random.Random(101)
        for n in range(1, 7):
            for m in range(1, 7):
                drawing = drawn(chance, n, m, "abcdefghijklmnopqrstuvwxyz.")
                told = self.called(read_drawing, "/".join(drawing))
                self.assertIs(type(told), tuple)
                self.assertTrue(all(type(row) is str for row in told))
                self.assertEqual(told, drawing)
                self.assertEqual(self.called(show_drawing, drawing), "/".join(drawing))

    def test_there_and_back(self):
        for text in WRITTEN:
            self.assertEqual(show_drawing(read_drawing(text)), text)

    def test_written_out(self):
        self.assertEqual(read_drawing("ab/c."), ("ab", "c."))
        self.assertEqual(read_drawing("."), (".",))
        self.assertEqual(show_drawing(("ab", "c.")), "ab/c.")
        self.assertEqual(read_drawing("abcdefghijklmnopqrstuvwxyz."[:6]), ("abcdef",))
        for sign in "abcdefghijklmnopqrstuvwxyz.":
            self.assertEqual(read_drawing(sign), (sign,))

    def test_no_drawing(self):
        for text in (
            "", "/", "//", "a/", "/a", "a//b", "ab/", "/ab", "ab//ab", "a/bc", "ab/c", "ab/cd/e", "abc/de/fgh",
            "/a/b", "a/b/",
            "a/a/a/a/a/a/a", "aaaaaaa", "aaaaaaa/aaaaaaa",
            "/".join(["aaaaaaa"] * 7), "a" * 1000, "/".join("a" * 60), "/" * 50,
            "A", "aB", "a1", "0", "a-b", "a,b", "a_b", "a+b", "*", "a\\b", "a|b", " ", "a ", " a", "a b", "ab/ cd",
            "ab /cd",
            "ab/\u00e9d", "\u00df", "\uff41", "\u0430", "a\u0301", "\u2024", "a\n", "\na", "ab\ncd", "ab/cd\n",
            "ab\n/cd", "a\r", "a\r\n",
            "a\t", "\ta", "\n", "a\x00", "a\x0b", "a\u2028", ",", ";", "ab;cd", "a/b/c/d/e/f/", "/a/b/c/d/e/f",
            "a:", "`", "{",
        ):
            with self.subTest(text=text):
                self.refused(NoDrawing, read_drawing, text)


def deeds_of(chance, n, m):
    """Deeds of whole grid steps, of fractions of them and of great whole moves, with rows of all sorts."""
    for rows in [rows for told in PLANE.values() for rows in told]:
        for trial in range(3):
            i, j = chance.randint(-n, n), chance.randint(-m, m)
            yield deed(rows, [i * m, j * n], n * m)
            far = [chance.randint(-HUNDRED_NINES, HUNDRED_NINES) for k in range(2)]
            yield deed(rows, [i * m + far[0] * n * m, j * n + far[1] * n * m], n * m)
        yield deed(rows, [1, 0], 2 * n)
        yield deed(rows, [chance.randint(-50, 50), chance.randint(-50, 50)], chance.randint(1, 60))


class Lays(CallCase):
    def check(self, drawing, one):
        wanted = laid(drawing, one)
        if wanted == "off":
            self.refused(OffSheet, lays, drawing, one)
        else:
            told = self.called(lays, drawing, one)
            self.assertEqual(told, wanted)
            if told is not None:
                self.assertIs(type(told), tuple)
                self.assertEqual([type(number) for number in told], [int, int])
        return wanted

    def test_by_its_definition(self):
        chance = random.Random(102)
        met = []
        for drawing in drawings():
            met.extend(self.check(drawing, one) for one in deeds_of(chance, len(drawing), len(drawing[0])))
        self.assertGreater(met.count("off"), 500)
        self.assertGreater(met.count(None), 500)
        self.assertGreater(len([1 for told in met if told not in (None, "off", (0, 0))]), 200)

    def test_written_out(self):
        for text, one, wanted in (
            ("a", "x,y", None), ("a", "x+5,y-7", None), ("a", "-y,x", None), ("a", "x+y,y", None), ("ab", "x,y", None),
            ("ab", "x,y+1/2", (0, 0)), ("aa", "x,y+1/2", None), ("ab/ba", "x+1/2,y+1/2", None),
            ("ab/ba", "x+1/2,y", (0, 0)), ("ab/ba", "-y,x", None), ("ab/ba", "y,x", None), ("ab/ab", "y,x", (0, 1)),
            ("ab/cb", "-y,x", (0, 1)), ("abc", "x,-y", (0, 1)), ("abb", "x,-y", None), ("aab/aaa/aaa", "y,x", (0, 2)),
            ("aab/aaa/aba", "y,x", (0, 2)), ("aaa/aaa/aba", "y,x", (1, 2)), ("abc/bca/cab", "x+1/3,y-1/3", None),
            ("abb/bbb/bbb", "-y,x-y", None), ("abb/bbb/bbb", "x-y,x", None), ("bbb/bab/bbb", "-y,x-y", (0, 2)),
            ("ab/cd", "x,y", None),
        ):
            with self.subTest(text=text, one=one):
                self.assertEqual(self.check(tuple(text.split("/")), read(one)), wanted)

    def test_deeds_of_space(self):
        for drawing in (("a",), ("ab", "ba")):
            for rows in [rows for told in SPACE.values() for rows in told]:
                self.refused(OffSheet, lays, drawing, deed(rows, [0, 0, 0], 1))
            self.refused(OffSheet, lays, drawing, read("x,y+1/2,z"))

    def test_places_without_a_sign(self):
        for text, one in (
            ("a", "x+1/2,y"), ("a", "x,y+1/3"), ("ab", "x+1/2,y"), ("ab", "x,y+1/4"), ("ab", "y,x"), ("a/b", "y,x"),
            ("ab/cd", "x+1/4,y"), ("abc/def", "-y,x"), ("abc/def", "x+1/3,y"), ("abc/def", "x,y+1/2"), ("ab", "x+y,y"),
            ("aa/aa", "x+1/3,y+1/3"), ("aaaaaa", "x+1/6,y"),
        ):
            with self.subTest(text=text, one=one):
                self.assertEqual(self.check(tuple(text.split("/")), read(one)), "off")

    def test_off_sheet_ahead_of_all_else(self):
        # The first sign's place goes to that of another sign, a later one's to none.
        for text, one in (("abc/bbb", "y+1/2,x"), ("ab/cd/ef", "y,x+1/2"), ("ab", "x+y,y+1/2")):
            drawing = tuple(text.split("/"))
            self.refused(OffSheet, lays, drawing, read(one))

    def test_rows_that_keep_uneven_sheets(self):
        self.assertIsNone(self.check(("ab", "ab"), read("x+y,y")))
        self.assertEqual(self.check(("ab", "cd"), read("x+y,y")), (0, 1))
        self.assertEqual(self.check(("ab", "cb"), read("x+y,y")), None)
        self.assertIsNone(self.check(("aab",) * 6, read("x+2y,y")))


if __name__ == "__main__":
    unittest.main()
