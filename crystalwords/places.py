"""Places: tuples (tops, under) in lowest terms, under from 1 on."""

from crystalwords.errors import NoPlace
from crystalwords.numbers import divisor


def place(tops, under):
    if under == 0:
        raise NoPlace("the under of a place is 0")
    if len(tops) == 0:
        raise NoPlace("a place has no tops")
    common = abs(under)
    for top in tops:
        common = divisor(common, top)
    # The sign goes along, so that the under told is from 1 on.
    if under < 0:
        common = -common
    return (tuple([top // common for top in tops]), under // common)


def rest_place(one):
    under = one[1]
    # What divides under and a top divides under and the top's rest too: these are lowest terms already.
    return (tuple([top % under for top in one[0]]), under)


def place_sum(one, other):
    tops = [left * other[1] + right * one[1] for left, right in zip(one[0], other[0])]
    return place(tops, one[1] * other[1])


def opposite(one):
    return (tuple([-top for top in one[0]]), one[1])


def place_less(one, other):
    return place_sum(one, opposite(other))


def nought(size):
    return ((0,) * size, 1)
