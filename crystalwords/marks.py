"""The marks of a group of the plane, which no change of the base alters."""

from crystalwords.cells import moves
from crystalwords.errors import NotLeast
from crystalwords.kinds import less_still
from crystalwords.meets import whole_met
from crystalwords.wholerows import determinant, dot


def check_least(group):
    if group.axes() != 2 or len(moves(group)) > 1:
        raise NotLeast("the group is not of the plane, or has other moves than whole ones")


def may_mirror(member):
    """Whether some whole move makes a mirror of a member of determinant -1."""
    # Just where it takes some place to itself but for whole numbers.
    return whole_met(less_still(member[0]), [-top for top in member[1]], member[2])[0] == "place"


def is_kept(pair, rows, under):
    """Whether rows take a pair to itself, but for multiples of under."""
    return all([(dot(row, pair) - number) % under == 0 for row, number in zip(rows, pair)])


def kept_pairs(turns, under):
    """How many pairs of numbers from 0 to below under all of the turns keep, but for multiples of it."""
    count = 0
    for p in range(under):
        for q in range(under):
            if all([is_kept((p, q), rows, under) for rows in turns]):
                count += 1
    return count


def marks(group):
    check_least(group)
    members = group.members()
    turns = [member[0] for member in members]
    mirrored = [member for member in members if determinant(member[0]) == -1]
    mirrors = [member for member in mirrored if may_mirror(member)]
    upright = len(members) - len(mirrored)
    return (len(members), upright, len(mirrors), kept_pairs(turns, 2), kept_pairs(turns, 3))


def unlike(one, other):
    for at, pair in enumerate(zip(marks(one), marks(other))):
        if pair[0] != pair[1]:
            return (at, pair[0], pair[1])
    return None
