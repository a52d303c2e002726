"""Groups in other bases, their moves and least cells, and least forms."""

from crystalwords.changes import change, check_beside, new_deed
from crystalwords.deeds import move
from crystalwords.errors import NoForm, NotKept, TooMany
from crystalwords.groups import check_most, group_of
from crystalwords.numbers import multiple, nearest
from crystalwords.places import nought, place
from crystalwords.stairs import less, stairs
from crystalwords.wholerows import determinant, scaled, still_rows, turned


def check_moves(group, vectors):
    for vector in vectors:
        if group.at(move(vector)) is None:
            raise NotKept("a vector of the new base is no move of the group")


def grown(count, vectors):
    """How many members there are in a base of moves of the group, of so many with the whole moves as a base."""
    top = count * abs(determinant([vector[0] for vector in vectors]))
    under = 1
    for vector in vectors:
        under = under * vector[1]
    # The vectors being moves of the group, this division comes out even.
    return top // under


def changed(group, way, most=200):
    check_most(most)
    check_beside(group.axes(), way)
    check_moves(group, way[0])
    deeds = [new_deed(member, way) for member in group.members()]
    if grown(len(deeds), way[0]) > most:
        raise TooMany([])
    # What was a whole move may be none now.
    units = [(tuple(row), 1) for row in still_rows(group.axes())]
    return group_of(group.axes(), deeds + [new_deed(move(unit), way) for unit in units])


def moves(group):
    units = move(nought(group.axes()))[0]
    return [(member[1], member[2]) for member in group.members() if member[0] == units]


def least_cell(group):
    axes = group.axes()
    spots = moves(group)
    under = multiple([spot[1] for spot in spots])
    base = scaled(still_rows(axes), under)
    # One move at a time, so that the stairs have few rows.
    for spot in spots:
        line = [top * (under // spot[1]) for top in spot[0]]
        base = stairs(base + [line])[0][:axes]
    return change([place(row, under) for row in base], nought(axes))


def least_form(a, b, c):
    if a <= 0 or a * c <= b * b:
        raise NoForm("a form has an a above 0 and an a c above b b")
    first = [1, 0]
    second = [0, 1]
    while 2 * abs(b) > a or a > c:
        if a > c:
            # The lesser one goes first; whichever it is, it is taken from the other one.
            held = first
            first = second
            second = held
            held = a
            a = c
            c = held
        count = nearest(b, a)
        second = less(second, first, count)
        c = c - 2 * count * b + count * count * a
        b = b - count * a
    if b < 0:
        second = [-number for number in second]
        b = -b
    rows = turned([first, second])
    return ((a, b, c), tuple([tuple(row) for row in rows]))
