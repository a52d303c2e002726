"""What several tests need: rows, deeds and places to try, and the plain meaning of deeds in fractions."""

import random
from fractions import Fraction
from itertools import product
from math import gcd

HUNDRED_NINES = 10 ** 100 - 1

# Rows of the plane by their span.
PLANE = {
    1: [((1, 0), (0, 1))],
    2: [((-1, 0), (0, -1)), ((-1, 0), (0, 1)), ((1, 0), (0, -1)), ((0, 1), (1, 0)), ((1, 1), (0, -1))],
    3: [((0, -1), (1, -1)), ((-1, 1), (-1, 0))],
    4: [((0, -1), (1, 0)), ((0, 1), (-1, 0)), ((1, -2), (1, -1))],
    6: [((1, -1), (1, 0)), ((0, 1), (-1, 1))],
    0: [((1, 1), (0, 1)), ((2, 1), (1, 1)), ((1, 1), (1, 0)), ((-1, 5), (0, -1)), ((0, 1), (1, 3))],
}
# Rows of space by their span, the determinant 1 ones first.
SPACE = {
    1: [((1, 0, 0), (0, 1, 0), (0, 0, 1))],
    2: [
        ((-1, 0, 0), (0, -1, 0), (0, 0, 1)), ((0, 1, 0), (1, 0, 0), (0, 0, -1)),
        ((-1, 0, 0), (0, -1, 0), (0, 0, -1)), ((1, 0, 0), (0, 1, 0), (0, 0, -1)), ((0, 1, 0), (1, 0, 0), (0, 0, 1)),
    ],
    3: [((0, -1, 0), (1, -1, 0), (0, 0, 1)), ((0, 0, 1), (1, 0, 0), (0, 1, 0))],
    4: [
        ((0, -1, 0), (1, 0, 0), (0, 0, 1)), ((1, 0, 0), (0, 0, -1), (0, 1, 0)),
        ((0, 1, 0), (-1, 0, 0), (0, 0, -1)),
    ],
    6: [
        ((1, -1, 0), (1, 0, 0), (0, 0, 1)), ((-1, 1, 0), (-1, 0, 0), (0, 0, -1)),
        ((0, 1, 0), (-1, 1, 0), (0, 0, -1)), ((0, 0, -1), (-1, 0, 0), (0, -1, 0)),
    ],
    0: [
        ((1, 1, 0), (0, 1, 0), (0, 0, 1)), ((2, 1, 0), (1, 1, 0), (0, 0, 1)), ((0, 0, 1), (1, 0, 1), (0, 1, 0)),
        ((-1, 0, 7), (0, -1, 0), (0, 0, -1)), ((1, 0, 0), (0, 1, 1), (0, 1, 0)),
    ],
}
ROWS = [rows for spans in (PLANE, SPACE) for told in spans.values() for rows in told]


def still_rows(n):
    return [[int(i == k) for k in range(n)] for i in range(n)]


def row_product(one, other):
    return [
        [sum(row[j] * other[j][k] for j in range(len(other))) for k in range(len(other[0]))]
        for row in one
    ]


def random_rows(chance, n, m, figures):
    bound = 10 ** figures - 1
    return [[chance.randint(-bound, bound) for k in range(m)] for i in range(n)]


def unimodular(chance, n, bound, steps=6):
    """Rows of determinant 1 or -1 and the rows that undo them."""
    rows = still_rows(n)
    undone = still_rows(n)
    for step in range(steps):
        i, j = chance.sample(range(n), 2) if n > 1 else (0, 0)
        if i == j:
            continue
        count = chance.randint(-bound, bound)
        rows[i] = [a + count * b for a, b in zip(rows[i], rows[j])]
        for row in undone:
            row[j] -= count * row[i]
    if chance.randint(0, 1):
        rows[0] = [-a for a in rows[0]]
        for row in undone:
            row[0] = -row[0]
    return rows, undone


def great_rows(chance, d):
    """Rows of determinant 1 or -1 with numbers of up to a hundred figures."""
    return unimodular(chance, d, 10 ** 24, 4)[0]


def frozen(thing):
    """A thing with all of its lists as tuples."""
    return tuple(frozen(part) for part in thing) if isinstance(thing, (list, tuple)) else thing


def thawed(thing):
    """A thing with all of its tuples as lists."""
    return [thawed(part) for part in thing] if isinstance(thing, (list, tuple)) else thing


def lists_within(thing):
    if isinstance(thing, list):
        yield thing
    if isinstance(thing, (list, tuple)):
        for part in thing:
            yield from lists_within(part)


def no_list_twice(thing):
    lists = list(lists_within(thing))
    return len({id(one) for one in lists}) == len(lists)


def all_whole(thing):
    if isinstance(thing, (list, tuple)):
        return all(all_whole(part) for part in thing)
    return type(thing) is int


def worth(spot):
    return [Fraction(top, spot[1]) for top in spot[0]]


def is_place(spot, m):
    return (
        type(spot) is tuple and len(spot) == 2 and type(spot[0]) is tuple and len(spot[0]) == m
        and all_whole(spot) and spot[1] >= 1 and gcd(spot[1], *spot[0]) == 1
    )


def is_deed(one, d):
    return (
        type(one) is tuple and len(one) == 3 and type(one[0]) is tuple and len(one[0]) == d
        and all(type(row) is tuple and len(row) == d for row in one[0])
        and all_whole(one[0]) and is_place(one[1:], d) and laplace(one[0]) in (1, -1)
    )


def laplace(rows):
    if not rows:
        return 1
    return sum(
        (-1) ** k * number * laplace([list(row[:k]) + list(row[k + 1:]) for row in rows[1:]])
        for k, number in enumerate(rows[0])
    )


def done(one, numbers):
    """Where a deed takes a place, told in fractions, by point 5's own words."""
    return [
        sum(row[k] * numbers[k] for k in range(len(row))) + Fraction(top, one[2])
        for row, top in zip(one[0], one[1])
    ]


def small_places(d):
    chance = random.Random(d)
    yield (0,) * d, 1
    for tops in product((-1, 0, 1), repeat=d):
        yield tops, 1
    for times in range(12):
        under = chance.randint(2, 12)
        tops = tuple(chance.randint(-20, 20) for k in range(d))
        common = gcd(under, *tops)
        yield tuple(top // common for top in tops), under // common


def great_place(chance, d):
    bound = HUNDRED_NINES
    tops = [chance.randint(-bound, bound) for k in range(d)]
    under = chance.randint(1, bound)
    common = gcd(under, *tops)
    return tuple(top // common for top in tops), under // common
