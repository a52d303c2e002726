"""Drawings to try, and the plain meaning of laying one on itself."""

import random
from fractions import Fraction

from samples import done

WRITTEN = (
    "a", ".", "ab", "a/b", "ab/ba", "aa/aa", "ab/ab", "aa/bb", "abc/bca/cab", "a../.a./..a", "...", "aba/bab/aba",
    "abcd/bcda/cdab/dabc", "abab/baba/abab/baba", "ab../.ab./..ab/b..a", "abcdef", "a/b/c/d/e/f", "a.a.a./.a.a.a",
    "aabb/aabb/bbaa/bbaa", "abba/baab", "ab.cde/fg.hij/klm.no/pqrst./uvwx.y/z.abcd",
    "aaaaaa/aaaaaa/aaaaaa/aaaaaa/aaaaaa/aaaaaa",
    "ab.ab./ab.ab./ab.ab.", "a.b/.../b.a", "abb/bbb/bbb", ".a./aaa/.a.", "abcba/bcdcb/cdedc/bcdcb/abcba", "aabaa",
    "..../.a../.aa./....",
)


def drawn(chance, n, m, signs):
    return tuple("".join(chance.choice(signs) for j in range(m)) for i in range(n))


def drawings():
    chance = random.Random(100)
    told = [tuple(text.split("/")) for text in WRITTEN]
    for trial in range(30):
        n, m = chance.randint(1, 6), chance.randint(1, 6)
        told.append(drawn(chance, n, m, chance.choice(("a", "ab", "a.", "abc", "abcdefghijklmnopqrstuvwxyz."))))
    for size in (1, 2, 3, 4, 5, 6):
        told.append(drawn(chance, size, size, "ab"))
    return told


def laid(drawing, one):
    """None, a pair or "off", by point 35's own words."""
    if len(one[0]) != 2:
        return "off"
    n, m = len(drawing), len(drawing[0])
    first = None
    for i in range(n):
        for j in range(m):
            reached = done(one, [Fraction(i, n), Fraction(j, m)])
            down, along = reached[0] * n, reached[1] * m
            if down.denominator != 1 or along.denominator != 1:
                return "off"
            if first is None and drawing[i][j] != drawing[int(down) % n][int(along) % m]:
                first = (i, j)
    return first
