"""Deeds: tuples (rows, tops, under) that take places to places."""

from crystalwords.errors import NoDeed, NoNumber
from crystalwords.places import place, rest_place
from crystalwords.wholerows import determinant, dot, inverse, still_rows, turned

MOST_TIMES = 200


def joined(rows, spot):
    return (tuple([tuple(row) for row in rows]), spot[0], spot[1])


def deed(rows, tops, under):
    axes = len(rows)
    if axes not in (2, 3):
        raise NoDeed("a deed has 2 or 3 rows")
    if any([len(row) != axes for row in rows]) or len(tops) != axes:
        raise NoDeed("the rows and the tops of a deed are as long as there are rows")
    if under == 0:
        raise NoDeed("the under of a deed is 0")
    if determinant(rows) not in (1, -1):
        raise NoDeed("the rows of a deed have the determinant 1 or -1")
    return joined(rows, place(tops, under))


def still(d):
    return deed(still_rows(d), [0] * d, 1)


def move(one):
    return deed(still_rows(len(one[0])), one[0], one[1])


def moved(one, spot):
    # Both are brought to one under, so that the sum is one of whole numbers.
    tops = [dot(row, spot[0]) * one[2] + top * spot[1] for row, top in zip(one[0], one[1])]
    return place(tops, one[2] * spot[1])


def behind(one, other):
    columns = turned(one[0])
    rows = [[dot(row, column) for column in columns] for row in other[0]]
    return joined(rows, moved(other, (one[1], one[2])))


def back(one):
    rows = inverse(one[0])
    return joined(rows, place([-dot(row, one[1]) for row in rows], one[2]))


def again(one, times):
    if times < -MOST_TIMES or times > MOST_TIMES:
        raise NoNumber("a deed is done from -200 to 200 times")
    step = one if times >= 0 else back(one)
    left = abs(times)
    done = still(len(one[0]))
    # Each round doubles the step, so that few rounds come to many times.
    while left > 0:
        if left % 2 == 1:
            done = behind(done, step)
        left = left // 2
        if left > 0:
            step = behind(step, step)
    return done


def rest(one):
    return joined(one[0], rest_place((one[1], one[2])))
