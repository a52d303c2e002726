"""Changes of the base: tuples (vectors, spot) of places."""

from crystalwords.deeds import joined, moved
from crystalwords.errors import NoChange, NotKept
from crystalwords.numbers import multiple
from crystalwords.places import nought, place, place_less, place_sum
from crystalwords.wholerows import crossed, determinant, dot, scaled, still_rows, times, turned


def change(vectors, spot):
    axes = len(vectors)
    if axes not in (2, 3):
        raise NoChange("a change has 2 or 3 vectors")
    if any([len(vector[0]) != axes for vector in vectors]) or len(spot[0]) != axes:
        raise NoChange("the vectors and the spot of a change have as many axes as there are vectors")
    if determinant([vector[0] for vector in vectors]) == 0:
        raise NoChange("the vectors of a change have the determinant 0")
    return (tuple([place(vector[0], vector[1]) for vector in vectors]), place(spot[0], spot[1]))


def check_beside(axes, one):
    if len(one[0]) != axes:
        raise NoChange("a change has another number of axes than what it stands beside")


def forth(one):
    """Rows and an under: divided by it, they lead from new numbers to old ones, but for the spot."""
    under = multiple([vector[1] for vector in one[0]])
    columns = [[top * (under // vector[1]) for top in vector[0]] for vector in one[0]]
    return (turned(columns), under)


def home(one):
    """Rows and an under: divided by it, they lead from old numbers to new ones, but for the spot."""
    table = forth(one)
    return (scaled(crossed(table[0]), table[1]), determinant(table[0]))


def led(table, spot):
    return place([dot(row, spot[0]) for row in table[0]], table[1] * spot[1])


def back_change(one):
    table = home(one)
    units = [(tuple(row), 1) for row in still_rows(len(one[0]))]
    return (tuple([led(table, unit) for unit in units]), new_place(nought(len(one[0])), one))


def change_behind(one, other):
    check_beside(len(other[0]), one)
    table = forth(one)
    return (tuple([led(table, vector) for vector in other[0]]), old_place(other[1], one))


def old_place(spot, one):
    check_beside(len(spot[0]), one)
    return place_sum(one[1], led(forth(one), spot))


def new_place(spot, one):
    check_beside(len(spot[0]), one)
    return led(home(one), place_less(spot, one[1]))


def new_deed(one, way):
    check_beside(len(one[0]), way)
    old = forth(way)
    new = home(way)
    rows = times(times(new[0], one[0]), old[0])
    under = new[1] * old[1]
    if any([any([number % under != 0 for number in row]) for row in rows]):
        raise NotKept("the rows of a deed aren't whole in the new base")
    whole = [[number // under for number in row] for row in rows]
    return joined(whole, new_place(moved(one, way[1]), way))
