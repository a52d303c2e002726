"""The seventeen groups of the plane without moves but whole ones."""

from crystalwords.errors import NoNumber
from crystalwords.groups import Group
from crystalwords.texts import read

MAKERS = (
    (),
    ("-x,-y",),
    ("-x,y",),
    ("-x,y+1/2",),
    ("y,x",),
    ("-x,y", "x,-y"),
    ("-x,-y", "-x+1/2,y"),
    ("-x,-y", "-x+1/2,y+1/2"),
    ("-x,-y", "y,x"),
    ("-y,x",),
    ("-y,x", "-x,y"),
    ("-y,x", "-x+1/2,y+1/2"),
    ("-y,x-y",),
    ("-y,x-y", "-y,-x"),
    ("-y,x-y", "y,x"),
    ("x-y,x",),
    ("x-y,x", "y,x"),
)
# Of each of them in turn; no two have the same.
TOLD_MARKS = (
    (1, 1, 0, 4, 9),
    (2, 2, 0, 4, 1),
    (2, 1, 1, 4, 3),
    (2, 1, 0, 4, 3),
    (2, 1, 1, 2, 3),
    (4, 2, 2, 4, 1),
    (4, 2, 1, 4, 1),
    (4, 2, 0, 4, 1),
    (4, 2, 2, 2, 1),
    (4, 4, 0, 2, 1),
    (8, 4, 4, 2, 1),
    (8, 4, 2, 2, 1),
    (3, 3, 0, 1, 3),
    (6, 3, 3, 1, 3),
    (6, 3, 3, 1, 1),
    (6, 6, 0, 1, 1),
    (12, 6, 6, 1, 1),
)


def told_group(number):
    if number < 1 or number > len(MAKERS):
        raise NoNumber("there are seventeen groups, numbered from 1 on")
    return Group(2, [read(text) for text in MAKERS[number - 1]])


def number_by(marks):
    return TOLD_MARKS.index(marks) + 1
