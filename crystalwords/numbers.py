"""Whole numbers."""


def divisor(one, other):
    greater = abs(one)
    lesser = abs(other)
    while lesser != 0:
        remainder = greater % lesser
        greater = lesser
        lesser = remainder
    return greater
