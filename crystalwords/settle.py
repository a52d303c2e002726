"""Groups of the plane are led into one of the seventeen, and so into one another."""

from crystalwords.cells import least_form
from crystalwords.changes import back_change, change, change_behind, new_deed, new_place, old_place
from crystalwords.deeds import still
from crystalwords.kinds import less_still
from crystalwords.marks import marks, unlike
from crystalwords.meets import whole_met
from crystalwords.numbers import multiple
from crystalwords.places import nought, place_less, rest_place
from crystalwords.seventeen import number_by, told_group
from crystalwords.wholerows import determinant, dot, times, turned

SMALL = (-1, 0, 1)


def small_pairs():
    pairs = []
    for p in SMALL:
        pairs.extend([[p, q] for q in SMALL])
    return pairs


def small_bases():
    bases = []
    for top in small_pairs():
        rows = [[top, bottom] for bottom in small_pairs()]
        bases.extend([base for base in rows if determinant(base) in (1, -1)])
    return bases


def least_base(group):
    """Rows whose columns are a least base of a form that no member alters."""
    a = 0
    b = 0
    c = 0
    for member in group.members():
        columns = turned(member[0])
        a += dot(columns[0], columns[0])
        b += dot(columns[0], columns[1])
        c += dot(columns[1], columns[1])
    return least_form(a, b, c)[1]


def bases_to_try(group):
    """Changes with spot nought. By one of them the rows of the group become those of the told one, with a spot."""
    least = least_base(group)
    tables = [turned(times(least, base)) for base in small_bases()]
    return [change([(tuple(column), 1) for column in table], nought(2)) for table in tables]


def gaps(group, makers, way):
    """By which places makers of the new base differ from the group's members; None where members lack their rows."""
    spots = dict([(member[0], (member[1], member[2])) for member in group.members()])
    undone = back_change(way)
    found = []
    for maker in makers:
        rows = new_deed(maker, undone)[0]
        if rows not in spots:
            return None
        found.append(place_less((maker[1], maker[2]), new_place(spots[rows], way)))
    return found


def spot_for(makers, lacking):
    """The spot, in new numbers, from which each maker's place differs by as much as is lacking; or None."""
    rows = []
    tops = []
    under = multiple([gap[1] for gap in lacking])
    for maker, gap in zip(makers, lacking):
        rows.extend(less_still(maker[0]))
        tops.extend([top * (under // gap[1]) for top in gap[0]])
    told = whole_met(rows, tops, under)
    return told[1] if told[0] == "place" else None


def led_by(group, makers, way):
    """The change with the vectors of way and a spot by which makers are members of the group; or None."""
    lacking = gaps(group, makers, way)
    if lacking is None:
        return None
    spot = spot_for(makers, lacking)
    # A whole move of the spot alters the members' places by whole numbers alone.
    return None if spot is None else (way[0], rest_place(old_place(spot, way)))


def first_led_by(group, makers):
    for way in bases_to_try(group):
        told = led_by(group, makers, way)
        if told is not None:
            return told
    return None


def settle(group):
    number = number_by(marks(group))
    # The still deed goes along, so that there is a row to ask for where there are no makers.
    makers = [still(2)] + told_group(number).makers()
    return (number, first_led_by(group, makers))


def same(one, other):
    if unlike(one, other) is not None:
        return None
    return change_behind(settle(one)[1], back_change(settle(other)[1]))
