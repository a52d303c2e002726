"""crystalwords.texts."""

import itertools
import random
import sys
import unittest

from crystalwords.deeds import again, deed
from crystalwords.errors import CrystalError, NoText
from crystalwords.texts import read, read_place, show_place, shown
from samples import HUNDRED_NINES, ROWS, frozen, great_place, great_rows, is_deed, is_place, small_places

HUNDRED = str(HUNDRED_NINES)
LONGER = "1" + "0" * 100

WRITTEN = (
    ("x,y", (((1, 0), (0, 1)), (0, 0), 1)),
    ("x,y,z", (((1, 0, 0), (0, 1, 0), (0, 0, 1)), (0, 0, 0), 1)),
    ("-x,-y", (((-1, 0), (0, -1)), (0, 0), 1)),
    ("-y,x-y,z+1/3", (((0, -1, 0), (1, -1, 0), (0, 0, 1)), (0, 0, 1), 3)),
    ("x-y,x", (((1, -1), (1, 0)), (0, 0), 1)),
    ("-x+1/2,y+1/2", (((-1, 0), (0, 1)), (1, 1), 2)),
    ("x+1/2,y-1/3", (((1, 0), (0, 1)), (3, -2), 6)),
    ("x+1,y-12", (((1, 0), (0, 1)), (1, -12), 1)),
    ("x+3y,y", (((1, 3), (0, 1)), (0, 0), 1)),
    ("-2x-3y-7/4,3x+4y+10", (((-2, -3), (3, 4)), (-7, 40), 4)),
    ("z,x,y-5/2", (((0, 0, 1), (1, 0, 0), (0, 1, 0)), (0, 0, -5), 2)),
    ("x+y+z,y+2z+1/6,z-1/4", (((1, 1, 1), (0, 1, 2), (0, 0, 1)), (0, 2, -3), 12)),
    ("x-10y+3/2,y", (((1, -10), (0, 1)), (3, 0), 2)),
)

# Read to the same deed as another text, as which it is shown.
OTHER_ORDERS = (
    ("1/2-x,y", "-x+1/2,y"),
    ("-1/2+x,y", "x-1/2,y"),
    ("-y+x,x", "x-y,x"),
    ("y+x,y", "x+y,y"),
    ("3y+x,y", "x+3y,y"),
    ("3-4y+x,y", "x-4y+3,y"),
    ("-7/4-3y-2x,10+3x+4y", "-2x-3y-7/4,3x+4y+10"),
    ("z+y+x,1/6+2z+y,-1/4+z", "x+y+z,y+2z+1/6,z-1/4"),
    ("x-5+2z,y,z", "x+2z-5,y,z"),
)

REFUSED = (
    # parts too few or too many, empty parts, the empty text
    "", "x", "xy", "x,y,z,x", "x,y,z,", ",", ",,", ",,,", ",x,y", "x,", ",y", "x,,y", "x,y,", "x,y,,z", "x;y",
    # a letter twice, two numbers alone
    "x+x,y", "x-x,y", "2x-x,y", "-x+y-x,y", "x+1+1,y", "x+1/2+1/2,y", "1+x-1,y", "1/2+x+1/3,y", "x+y+x,y",
    "z+z,x,y", "x,y+1+2",
    # a z where there are two parts, other letters
    "x,z", "z,x", "x+z,y", "x,y+z", "x,y-2z", "a,b", "x,y,w", "X,Y", "x,Y", "u+x,y", "x,y,Z", "xy,y", "x2,y", "xx,y",
    # blanks and other signs
    " x,y", "x,y ", "x, y", "x ,y", "x + 1,y", "x+ 1,y", "x,y\n", "\nx,y", "x\t,y", " ", "x,y\u00a0", "2 x,y",
    "x*1,y", "2*x,y", "x.,y", "x+0.5,y", "x+1.5,y", "(x),y", "x+1_0,y", "x+1e2,y", "x\u22121,y", "x+\u00bd,y",
    "x+1\\2,y", "x+1:2,y", "x,y\0", "#", "x+0x1,y", "x+a/b,y",
    # signs that stand wrong
    "+x,y", "x,+y", "+1/2+x,y", "++x,y", "+-x,y", "-+x,y", "--x,y", "x++y,y", "x+-y,y", "x-+y,y", "x--y,y", "x+,y",
    "x-,y", "x,y+", "-,y", "+,y", "x,-", "x,y-", "-x-,y", "x+1/-2,y", "x+1/+2,y", "x+-1/2,y", "x+1+,y", "x-+,y",
    # noughts, and a 1 ahead of a letter
    "x+0,y", "x-0,y", "0+x,y", "0,y", "x+01,y", "x+00,y", "02x+y,x", "0x+y,x", "x+0y,y", "x-0y,y", "x+02y,y",
    "1x,y", "-1x,y", "x,1y", "x+1y,y", "x-1y,y", "x+01y,y", "x,y,1z", "x+01/2,y", "x+1/02,y", "x+0/2,y",
    # fractions
    "x+2/4,y", "x+2/2,y", "x+3/1,y", "x+1/1,y", "x+1/0,y", "x+0/1,y", "x+0/0,y", "x+6/4,y", "x-2/4,y", "x+/2,y",
    "x+1/,y", "x+/,y", "x+1/2/3,y", "x+1//2,y", "1/2x+y,x", "x/2,y", "x/y,y", "x+1/2y,y", "x+1/x,y", "/x,y", "x/,y",
    # numbers of more than a hundred figures
    f"x+{LONGER},y", f"x-{LONGER},y", f"x+{LONGER}y,y", f"x+1/{LONGER},y", f"x+{LONGER}/3,y", f"x,y,z+{LONGER}",
    "x+" + "9" * 5000 + ",y", "x+1/" + "9" * 5000 + ",y", "9" * 5000, "x+" + "1" * 101 + "y,y",
    # figures of other scripts
    "x+\u0661,y", "x+\u0662y,y", "x+1/\u0662,y", "x+\uff12,y", "x+\u00b2,y", "x+\u0967,y", "\u0662x+y,x",
    # rows of another determinant
    "x,x", "2x,y", "x+y,x-y", "1,2", "1/2,1/3", "1,x", "x,1/2", "y,2x", "x,y,x", "x,y,1/2", "x,2y,z", "x+y,y+z,z+x",
    "-x,3y", "x,y,2z", "1,1,1", "x-y,y-z,z-x", f"{HUNDRED}x,y",
    # longer texts
    "," * 3000, "x" * 3000, "x," * 2000, "-" * 3000, "+" * 3000, "/" * 3000, "x+" * 2000 + ",y", "1," + "x+" * 5000,
)

WRITTEN_PLACES = (
    ("0,0", ((0, 0), 1)),
    ("0,0,0", ((0, 0, 0), 1)),
    ("1,-1", ((1, -1), 1)),
    ("1/2,1/3", ((3, 2), 6)),
    ("-1/2,0", ((-1, 0), 2)),
    ("10,-200/7,3", ((70, -200, 21), 7)),
    ("7/2,-7/4", ((14, -7), 4)),
    ("-12,5/6,-5/6", ((-72, 5, -5), 6)),
    ("100,1/100", ((10000, 1), 100)),
)

REFUSED_PLACES = (
    # parts
    "", "0", "1/2", "1,2,3,4", "0,0,0,0", ",", "1,", ",1", "1,,2", ",1,2", "1,2,", "1;2", "1,2,,",
    # noughts
    "-0,0", "0,-0", "00,0", "01,0", "0,02", "-01,0", "1/02,0", "01/2,0", "0/2,0", "0/1,0", "-0/2,0", "1/0,0", "0/0,0",
    "0,00", "0,0,-0",
    # fractions not in lowest terms, or wrong ones
    "2/4,0", "2/2,0", "3/1,0", "1/1,0", "-2/4,0", "6/4,0", "1/-2,0", "1/+2,0", "/2,0", "1/,0", "/,0", "1/2/3,0",
    "1//2,0", "-/2,0", "0,10/5",
    # signs and blanks
    "+1,0", "0,+1", "+1/2,0", "+0,0", "--1,0", "-+1,0", "-,0", "+,0", "1-,0", "1-1,0", "1+1,0", " 1,0", "1, 0", "1 ,0",
    "1,0 ", "1,0\n", "\t1,0", "- 1,0", "1 /2,0", "1/ 2,0", " ",
    "x,y", "x,0", "1x,0", "a,b", "1.5,0", "1_0,0", "1e3,0", "0x1,0", "\u22121,0", "\u00bd,0", "(0,0)", "0,0\0", "1:2,0",
    # figures of other scripts
    "\u0661,0", "1/\u0662,0", "\uff12,0", "\u00b2,0", "\u0660,0",
    # too many figures
    f"{LONGER},0", f"-{LONGER},0", f"0,1/{LONGER}", f"{LONGER}/3,0", "0," + "9" * 5000, "1/" + "7" * 5000 + ",0",
    "," * 3000, "1," * 2000, "9" * 5000, "-" * 5000,
)


class TextCase(unittest.TestCase):
    def refused(self, reader, texts):
        for text in texts:
            with self.subTest(text=text[:40]):
                with self.assertRaises(CrystalError) as caught:
                    reader(text)
                self.assertIs(type(caught.exception), NoText)


def many_deeds():
    chance = random.Random(7)
    for rows in ROWS:
        for tops, under in small_places(len(rows)):
            yield deed(rows, tops, under)
    for d in (2, 3):
        for trial in range(5):
            # Both numbers of a fraction keep to a hundred figures, whatever is divided out.
            tops, under = great_place(chance, d)
            yield deed(great_rows(chance, d), tops, under)


class Deeds(TextCase):
    def test_written_out(self):
        for text, one in WRITTEN:
            with self.subTest(text=text):
                self.assertEqual(read(text), one)
                self.assertEqual(shown(one), text)
                self.assertIs(type(shown(one)), str)
                self.assertTrue(is_deed(read(text), len(one[0])))

    def test_what_is_shown_is_read_to_the_same_deed(self):
        for one in many_deeds():
            text = shown(one)
            self.assertEqual(read(text), one, text)
            self.assertEqual(shown(read(text)), text)

    def test_terms_in_any_order(self):
        for text, wanted in OTHER_ORDERS:
            with self.subTest(text=text):
                self.assertEqual(shown(read(text)), wanted)
                self.assertEqual(read(text), read(wanted))

    def test_every_order_of_four_terms(self):
        wanted = deed([[2, -1, 3], [1, 0, 0], [0, 0, 1]], [-5, 0, 0], 6)
        for terms in itertools.permutations(("+2x", "-y", "+3z", "-5/6")):
            text = "".join(terms).removeprefix("+") + ",x,z"
            self.assertEqual(read(text), wanted, text)
        self.assertEqual(shown(wanted), "2x-y+3z-5/6,x,z")

    def test_a_hundred_figures(self):
        more = HUNDRED_NINES - 1
        self.assertEqual(read(f"x+{HUNDRED},y"), deed([[1, 0], [0, 1]], [HUNDRED_NINES, 0], 1))
        self.assertEqual(read(f"x-{HUNDRED}y,y"), deed([[1, -HUNDRED_NINES], [0, 1]], [0, 0], 1))
        for text in (
            f"x+{HUNDRED},y", f"x-{HUNDRED}y,y", f"x+{HUNDRED}/{more},y-1/{HUNDRED}", f"x,y,z-{more}/{HUNDRED}",
            f"{HUNDRED}x+{more}y,x+y", f"x+1/{HUNDRED},y+1/{more},z+1/7",
        ):
            with self.subTest(text=text):
                self.assertEqual(shown(read(text)), text)
        self.assertEqual(len(HUNDRED), 100)

    def test_what_was_told_is_shown_however_many_figures(self):
        kept = sys.get_int_max_str_digits()
        much = again(read(f"{HUNDRED}x+{HUNDRED_NINES - 1}y+1/3,x+y"), 200)
        self.assertGreater(much[0][0][0], 10 ** 19000)
        text = shown(much)
        self.assertEqual(sys.get_int_max_str_digits(), kept)
        sys.set_int_max_str_digits(0)
        try:
            part = text.split(",")[0]
            self.assertTrue(part.startswith(str(much[0][0][0]) + "x+" + str(much[0][0][1]) + "y+"))
        finally:
            sys.set_int_max_str_digits(kept)

    def test_refused(self):
        self.refused(read, REFUSED)

    def test_places_are_no_deeds(self):
        self.refused(read, [text for text, one in WRITTEN_PLACES])

    def test_every_short_text_is_read_as_shown_or_refused(self):
        # What is read has the signs of its deed's shown text, but for a + where the terms stand in another order.
        for length in range(6):
            for signs in itertools.product("xy-,2+/1", repeat=length):
                self.check_short("".join(signs))

    def check_short(self, text):
        try:
            one = read(text)
        except NoText:
            return
        self.assertTrue(is_deed(one, text.count(",") + 1))
        self.assertEqual(sorted(shown(one).replace("+", "")), sorted(text.replace("+", "")))


class Places(TextCase):
    def test_written_out(self):
        for text, spot in WRITTEN_PLACES:
            with self.subTest(text=text):
                self.assertEqual(read_place(text), spot)
                self.assertEqual(show_place(spot), text)
                self.assertIs(type(show_place(spot)), str)

    def test_what_is_shown_is_read_to_the_same_place(self):
        chance = random.Random(8)
        for d in (2, 3):
            for spot in list(small_places(d)) + [great_place(chance, d) for trial in range(20)]:
                text = show_place(spot)
                told = read_place(text)
                self.assertTrue(is_place(told, d))
                self.assertEqual(told, spot)
                self.assertNotIn(" ", text)

    def test_a_hundred_figures(self):
        more = HUNDRED_NINES - 1
        for text in (f"{HUNDRED},-{HUNDRED}", f"-{more}/{HUNDRED},0", f"{HUNDRED}/{more},1/{HUNDRED},-1/{more}"):
            with self.subTest(text=text):
                self.assertEqual(show_place(read_place(text)), text)

    def test_what_was_told_is_shown_however_many_figures(self):
        far = again(frozen(deed([[HUNDRED_NINES, HUNDRED_NINES - 1], [1, 1]], [1, 0], 3)), 100)[1:]
        text = show_place(far)
        self.assertGreater(len(text), 4300)
        self.assertEqual(set(text) - set("0123456789"), {",", "/"})

    def test_refused(self):
        self.refused(read_place, REFUSED_PLACES)

    def test_deeds_are_no_places(self):
        self.refused(read_place, [text for text, one in WRITTEN])


if __name__ == "__main__":
    unittest.main()
