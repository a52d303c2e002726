"""Groups of deeds, closed from makers and told but for whole moves."""

from crystalwords.deeds import back, behind, rest, still
from crystalwords.errors import NoDeed, NoNumber, TooMany

MOST_MEMBERS = 200


def check_most(most):
    if most < 1 or most > MOST_MEMBERS:
        raise NoNumber("a group is allowed from 1 to 200 members")


def check_axes(d, makers):
    if d not in (2, 3):
        raise NoDeed("a group has 2 or 3 axes")
    for maker in makers:
        if len(maker[0]) != d:
            raise NoDeed("a maker has another number of axes than the group")


def closed(d, makers, most):
    """The words of all members, by members; each as short as any, for shorter ones are found first."""
    # Makers alone suffice: where the members are not endless, the ways back are among what comes of them.
    steps = [rest(maker) for maker in makers]
    found = [still(d)]
    words = {found[0]: []}
    at = 0
    while at < len(found):
        for number, step in enumerate(steps):
            reached = rest(behind(found[at], step))
            if reached not in words:
                words[reached] = words[found[at]] + [number]
                found.append(reached)
            if len(found) > most:
                raise TooMany([words[member] for member in found])
        at += 1
    return words


class Group:
    def __init__(self, d, makers, most=200):
        check_most(most)
        check_axes(d, makers)
        words = closed(d, makers, most)
        self.dimension = d
        self.given = list(makers)
        self.ordered = sorted(words)
        self.shortest = [words[member] for member in self.ordered]
        self.numbers = dict([(member, number) for number, member in enumerate(self.ordered)])

    def axes(self):
        return self.dimension

    def makers(self):
        return list(self.given)

    def members(self):
        return list(self.ordered)

    def words(self):
        return [list(word) for word in self.shortest]

    def at(self, one):
        return self.numbers.get(rest(one))

    def product(self, i, j):
        return self.at(behind(self.ordered[i], self.ordered[j]))

    def back_of(self, i):
        return self.at(back(self.ordered[i]))


def group_of(d, deeds):
    """The group closed from deeds, told with few makers: each at least doubles what came of those before it."""
    group = Group(d, [])
    for one in deeds:
        if group.at(one) is None:
            group = Group(d, group.makers() + [one])
    return group
