"""Whole numbers."""


def divisor(one, other):
    greater = abs(one)
    lesser = abs(other)
    while lesser != 0:
        remainder = greater % lesser
        greater = lesser
        lesser = remainder
    return greater


def multiple(numbers):
    """The least number from 1 on that each of some numbers, none of them 0, divides."""
    least = 1
    for number in numbers:
        least = least // divisor(least, number) * abs(number)
    return least


def nearest(one, other):
    """The whole number nearest to one divided by other; of two that are as near, the greater."""
    return (2 * one + other) // (2 * other)


def figures(number):
    """The figures of a number from 0 on, however many."""
    # Python's own str refuses numbers of more than some thousand figures, so it is given short pieces alone.
    powers = [10 ** 64]
    while powers[-1] * powers[-1] <= number:
        powers.append(powers[-1] * powers[-1])
    pieces = [number]
    for power in reversed(powers):
        pieces = halved(pieces, power)
    text = "".join([str(piece).zfill(64) for piece in pieces]).lstrip("0")
    return "0" if text == "" else text


def halved(pieces, power):
    shorter = []
    for piece in pieces:
        shorter.append(piece // power)
        shorter.append(piece % power)
    return shorter
