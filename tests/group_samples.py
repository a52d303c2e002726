"""Groups to try, and what tests ask of calls that take them."""

import random
import unittest
from fractions import Fraction

from crystalwords.changes import change
from crystalwords.errors import CrystalError
from crystalwords.groups import Group
from crystalwords.texts import read
from samples import frozen, great_place, unimodular

# Makers, with the number of members.
PLANE_GROUPS = (
    ("", 1), ("x,y", 1), ("x+5,y-3", 1), ("x+1/2,y", 2), ("x+1/2,y x,y+1/3", 6), ("x+1/6,y+1/4", 12),
    ("-x,-y", 2), ("-x+1/3,-y+1/5", 2), ("-x,y", 2), ("-x,y+1/2", 2), ("y,x", 2), ("y+1/2,x", 4), ("-x,y x,-y", 4),
    ("-x,-y -x+1/2,y", 4), ("-x,-y -x+1/2,y+1/2", 4), ("-x,-y y,x", 4), ("-y,x", 4), ("-y,x -x,y", 8),
    ("-y,x -x+1/2,y+1/2", 8), ("-y,x-y", 3), ("-y,x-y -y,-x", 6), ("-y,x-y y,x", 6), ("x-y,x", 6), ("x-y,x y,x", 12),
    ("x-y,x y,x x+1/2,y", 48), ("-y,x -x,y x+1/5,y", 200), ("x+1/200,y", 200), ("x+1/10,y x,y+1/20", 200),
    ("-x,y -x,y -x,y", 2), ("-x,y+1/4", 4), ("-y,x -y,x+1/2", 16),
)
SPACE_GROUPS = (
    ("", 1), ("x+1/2,y+1/2,z", 2), ("-x,-y,-z", 2), ("-x,-y,z+1/2", 2), ("-y,x-y,z+1/3", 3), ("x,y,-z", 2),
    ("x+1/2,y,-z", 2), ("-y,x,z+1/4", 4), ("x-y,x,z+1/6", 6), ("z,x,y", 3), ("-y,x,z z,x,y", 24),
    ("-y,x,z z,x,y -x,-y,-z", 48), ("-y,x,z z,x,y -x,-y,-z x+1/2,y+1/2,z x,y+1/2,z+1/2", 192),
    ("-x,-y,z+1/2 -x,y+1/2,-z", 4), ("-x+1/2,-y,z+1/2 -x,y+1/2,-z+1/2 z,x,y", 12), ("y,-x,-z", 4), ("-z,-x,-y", 6),
    ("x-y,x,z y,x,-z -x,-y,-z", 24), ("-x,-y,z+1/5", 10),
)
GROUPS = [(2, text, count) for text, count in PLANE_GROUPS] + [(3, text, count) for text, count in SPACE_GROUPS]


def makers_of(text):
    return [read(word) for word in text.split()]


def group_told(d, text):
    return Group(d, makers_of(text))


def all_groups():
    for d, text, count in GROUPS:
        yield text, group_told(d, text)


def whole_change(chance, d, bound, spot=None):
    """A change with whole vectors of determinant 1 or -1."""
    vectors = [(tuple(row), 1) for row in unimodular(chance, d, bound)[0]]
    return change(vectors, great_place(chance, d) if spot is None else spot)


def solved(table, wanted):
    """The numbers that a table of fractions takes to the wanted ones, or None where its determinant is 0."""
    lines = [[Fraction(number) for number in row] + [Fraction(last)] for row, last in zip(table, wanted)]
    for k in range(len(lines)):
        standing = [i for i in range(k, len(lines)) if lines[i][k] != 0]
        if not standing:
            return None
        lines[k], lines[standing[0]] = lines[standing[0]], lines[k]
        lines[k] = [number / lines[k][k] for number in lines[k]]
        for i in range(len(lines)):
            if i != k:
                lines[i] = [one - lines[i][k] * other for one, other in zip(lines[i], lines[k])]
    return [line[-1] for line in lines]


def small_spots(d):
    """Places of few figures, special ones and others, as tuples (tops, under)."""
    chance = random.Random(900 + d)
    spots = [((0,) * d, 1), ((1,) * d, 2), ((1,) + (0,) * (d - 1), 2), ((0,) * (d - 1) + (1,), 2), ((1,) * d, 4)]
    spots += [((1, 2) + (0,) * (d - 2), 3), ((2, 1) + (0,) * (d - 2), 3), ((-5,) + (7,) * (d - 1), 2)]
    spots += [(tuple(chance.randint(-9, 9) for k in range(d - 1)) + (1,), chance.randint(2, 12)) for trial in range(4)]
    return spots


def state(thing):
    """All that can be seen of a thing, with what is within it."""
    if isinstance(thing, Group):
        return (thing.axes(), frozen(thing.makers()), frozen(thing.members()), frozen(thing.words()))
    if isinstance(thing, (list, tuple)):
        return (thing.__class__, tuple(state(part) for part in thing))
    return thing


class CallCase(unittest.TestCase):
    def called(self, call, *handed):
        """What a call tells; what was handed in stays as it was."""
        kept = state(handed)
        told = call(*handed)
        self.assertEqual(state(handed), kept)
        return told

    def refused(self, wanted, call, *handed):
        kept = state(handed)
        with self.assertRaises(CrystalError) as caught:
            call(*handed)
        self.assertIs(type(caught.exception), wanted)
        self.assertEqual(state(handed), kept)
        return caught.exception


# Point 33: the makers and the marks of the seventeen.
SEVENTEEN = {
    1: ("", (1, 1, 0, 4, 9)),
    2: ("-x,-y", (2, 2, 0, 4, 1)),
    3: ("-x,y", (2, 1, 1, 4, 3)),
    4: ("-x,y+1/2", (2, 1, 0, 4, 3)),
    5: ("y,x", (2, 1, 1, 2, 3)),
    6: ("-x,y x,-y", (4, 2, 2, 4, 1)),
    7: ("-x,-y -x+1/2,y", (4, 2, 1, 4, 1)),
    8: ("-x,-y -x+1/2,y+1/2", (4, 2, 0, 4, 1)),
    9: ("-x,-y y,x", (4, 2, 2, 2, 1)),
    10: ("-y,x", (4, 4, 0, 2, 1)),
    11: ("-y,x -x,y", (8, 4, 4, 2, 1)),
    12: ("-y,x -x+1/2,y+1/2", (8, 4, 2, 2, 1)),
    13: ("-y,x-y", (3, 3, 0, 1, 3)),
    14: ("-y,x-y -y,-x", (6, 3, 3, 1, 3)),
    15: ("-y,x-y y,x", (6, 3, 3, 1, 1)),
    16: ("x-y,x", (6, 6, 0, 1, 1)),
    17: ("x-y,x y,x", (12, 6, 6, 1, 1)),
}
# Groups that are not of the plane, or have other moves than whole ones.
NOT_LEAST = (
    (2, "x+1/2,y"), (2, "x+1/2,y+1/2"), (2, "-x,y+1/4"), (2, "y+1/2,x"), (2, "-y,x -y,x+1/2"), (2, "-y,x -x,y x+1/5,y"),
    (2, "x+1/200,y"), (2, "x,y+1/3 -x,-y"), (3, ""), (3, "-x,-y,z"), (3, "-y,x,z"), (3, "x+1/2,y,z"),
    (3, "-y,x,z z,x,y -x,-y,-z"), (3, "x,y,-z"),
)


def other_bases(chance):
    """Changes with whole vectors of determinant 1 or -1: shears, exchanges, turned signs and what comes of them."""
    great = chance.randint(10 ** 98, 10 ** 99)
    for rows in (
        ((1, 0), (0, 1)), ((0, 1), (1, 0)), ((-1, 0), (0, 1)), ((1, 0), (0, -1)), ((0, -1), (-1, 0)), ((1, 1), (0, 1)),
        ((1, 0), (-1, 1)), ((2, 1), (1, 1)), ((1, great), (0, 1)), ((1, 0), (-great, 1)), ((great, 1), (-1, 0)),
    ):
        spot = chance.choice((((0, 0), 1), ((1, 1), 2), ((1, 2), 3), ((-7, 5), 12), great_place(chance, 2)))
        yield change([(tuple(row), 1) for row in rows], spot)
    for bound in (1, 2, 9, 10 ** 6, 10 ** 16):
        yield whole_change(chance, 2, bound)
