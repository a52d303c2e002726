"""Drawings: tuples of rows of signs, which come again by whole moves."""

from crystalwords.deeds import moved
from crystalwords.errors import NoDrawing, OffSheet
from crystalwords.places import place

SMALL_LETTERS = "abcdefghijklmnopqrstuvwxyz"
LONGEST = 6


def are_signs(text):
    """Whether a text has one or more signs, and none but those of drawings."""
    return text != "" and all([sign == "." or sign in SMALL_LETTERS for sign in text])


def is_length(number):
    return 1 <= number and number <= LONGEST


def read_drawing(text):
    rows = text.split("/")
    if not is_length(len(rows)) or not is_length(len(rows[0])):
        raise NoDrawing("a drawing has one to six rows of one to six signs")
    for row in rows:
        if len(row) != len(rows[0]) or not are_signs(row):
            raise NoDrawing("a drawing has rows of one length, of small letters and points")
    return tuple(rows)


def show_drawing(drawing):
    return "/".join(drawing)


def seats(n, m):
    """The pairs (i, j) of all signs, in order."""
    return [(number // m, number % m) for number in range(n * m)]


def seat_at(spot, n, m):
    """The pair (i, j) of the sign that lies at a place."""
    under = spot[1]
    down = spot[0][0] * n
    along = spot[0][1] * m
    if down % under != 0 or along % under != 0:
        raise OffSheet("the deed takes a sign's place to a place without a sign")
    return (down // under % n, along // under % m)


def seats_reached(one, n, m):
    """Along the pairs of all signs, the pairs to whose places a deed takes theirs."""
    if len(one[0]) != 2:
        raise OffSheet("the deed is none of the plane")
    spots = [place([seat[0] * m, seat[1] * n], n * m) for seat in seats(n, m)]
    return [seat_at(moved(one, spot), n, m) for spot in spots]


def sign_at(drawing, seat):
    return drawing[seat[0]][seat[1]]


def lays(drawing, one):
    n = len(drawing)
    m = len(drawing[0])
    for seat, reached in zip(seats(n, m), seats_reached(one, n, m)):
        if sign_at(drawing, seat) != sign_at(drawing, reached):
            return seat
    return None
