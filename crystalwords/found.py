"""The group of a drawing is found, and a drawing is made of a group."""

from crystalwords.deeds import deed
from crystalwords.drawings import are_signs, is_length, lays, seats, seats_reached
from crystalwords.errors import NoDrawing, NoSheet
from crystalwords.groups import MOST_MEMBERS, group_of
from crystalwords.seventeen import told_group

# The told group whose rows are the turns of a sheet.
SHEETS = {"plain": 2, "oblong": 6, "square": 11, "sixty": 17}
EVEN_SHEETS = ("square", "sixty")


def sheet_turns(sheet):
    if sheet not in SHEETS:
        raise NoSheet("there is no such sheet")
    return [member[0] for member in told_group(SHEETS[sheet]).members()]


def sheet_deeds(sheet, n, m):
    turns = sheet_turns(sheet)
    if sheet in EVEN_SHEETS and n != m:
        raise NoSheet("such a sheet has as many rows as signs in a row")
    if len(turns) * n * m > MOST_MEMBERS:
        raise NoSheet("the sheet has more than 200 deeds but for whole moves")
    deeds = []
    for seat in seats(n, m):
        deeds.extend([deed(turn, [seat[0] * m, seat[1] * n], n * m) for turn in turns])
    return deeds


def found_group(drawing, sheet):
    deeds = sheet_deeds(sheet, len(drawing), len(drawing[0]))
    return group_of(2, [one for one in deeds if lays(drawing, one) is None])


def check_spread(n, m, signs):
    if not is_length(n) or not is_length(m):
        raise NoDrawing("a drawing has one to six rows of one to six signs")
    if not are_signs(signs):
        raise NoDrawing("a drawing has small letters and points as signs")


def signs_given(group, n, m, signs):
    """The signs by the pairs (i, j) that bear them."""
    ways = [seats_reached(member, n, m) for member in group.members()]
    given = {}
    count = 0
    for number, seat in enumerate(seats(n, m)):
        if seat not in given:
            for way in ways:
                given[way[number]] = signs[count % len(signs)]
            count += 1
    return given


def spread(group, n, m, signs):
    check_spread(n, m, signs)
    given = signs_given(group, n, m, signs)
    return tuple(["".join([given[(i, j)] for j in range(m)]) for i in range(n)])
