"""The desk: it keeps groups and drawings by names and answers rows."""

from crystalwords.cells import changed, least_cell
from crystalwords.changes import change
from crystalwords.drawings import lays, show_drawing
from crystalwords.errors import NoNumber, NoPlace
from crystalwords.found import found_group, spread
from crystalwords.gathered import alike, leading
from crystalwords.groups import Group
from crystalwords.kinds import kind_of
from crystalwords.parts import lacks
from crystalwords.rowsay import values_of, words_of
from crystalwords.settle import same, settle
from crystalwords.texts import show_place, shown


def yes_or_no(holds):
    return "yes" if holds else "no"


def check_places(group, spots):
    for spot in spots:
        if len(spot[0]) != group.axes():
            raise NoPlace("a place has another number of axes than the group")


def make_group(values):
    return Group(values[0], values[1:])


def make_cell(values):
    return changed(values[0], least_cell(values[0]))


def make_base(values):
    group = values[0]
    spots = values[1:]
    if len(spots) != group.axes() + 1:
        raise NoPlace("a base has as many vectors as the group has axes, and a spot")
    check_places(group, spots)
    return changed(group, change(spots[:-1], spots[-1]))


def make_drawing(values):
    return values[0]


def make_found(values):
    return found_group(values[0], values[1])


def make_spread(values):
    return spread(values[0], values[1], values[2], values[3])


def tell_size(values):
    return str(len(values[0].members()))


def tell_member(values):
    members = values[0].members()
    if values[1] >= len(members):
        raise NoNumber("the group has no member of this number")
    return shown(members[values[1]])


def tell_has(values):
    return yes_or_no(values[0].at(values[1]) is not None)


def tell_kind(values):
    kind = kind_of(values[0])
    return " ".join([kind.word(), str(kind.fold()), str(kind.order())])


def tell_alike(values):
    check_places(values[0], values[1:])
    return str(len(alike(values[0], values[1])))


def tell_lead(values):
    check_places(values[0], values[1:])
    one = leading(values[0], values[1], values[2])
    return "none" if one is None else shown(one)


def tell_in(values):
    return yes_or_no(lacks(values[0], values[1]) is None)


def tell_settle(values):
    told = settle(values[0])
    spots = list(told[1][0]) + [told[1][1]]
    return " ".join([str(told[0])] + [show_place(spot) for spot in spots])


def tell_same(values):
    return yes_or_no(same(values[0], values[1]) is not None)


def tell_drawing(values):
    return show_drawing(values[0])


def tell_lay(values):
    seat = lays(values[0], values[1])
    return "yes" if seat is None else " ".join(["no", str(seat[0]), str(seat[1])])


# Of the values of a row's words: what makes a thing, without the new name, and what tells a text.
MAKE = {
    "group": make_group,
    "cell": make_cell,
    "base": make_base,
    "draw": make_drawing,
    "find": make_found,
    "spread": make_spread,
}
TELL = {
    "size": tell_size,
    "member": tell_member,
    "has": tell_has,
    "kind": tell_kind,
    "alike": tell_alike,
    "lead": tell_lead,
    "in": tell_in,
    "settle": tell_settle,
    "same": tell_same,
    "show": tell_drawing,
    "lay": tell_lay,
}


class Desk:
    def __init__(self):
        self.things = {}

    def say(self, row):
        told = words_of(row)
        first = told[0]
        values = values_of(told[1], self.things)
        if first in TELL:
            return TELL[first](values)
        # It is made ahead of being kept: where that is refused, the name stands for what it stood for.
        thing = MAKE[first](values[1:])
        self.things[values[0]] = thing
        return "ok"
