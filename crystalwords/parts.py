"""Groups in groups."""

from crystalwords.deeds import behind
from crystalwords.errors import NoDeed, NotWithin
from crystalwords.groups import Group, check_most, group_of


def check_alike_axes(one, other):
    if one.axes() != other.axes():
        raise NoDeed("the groups have unlike numbers of axes")


def lacks(one, other):
    check_alike_axes(one, other)
    for number, member in enumerate(one.members()):
        if other.at(member) is None:
            return number
    return None


def common(one, other):
    check_alike_axes(one, other)
    return group_of(one.axes(), [member for member in one.members() if other.at(member) is not None])


def both(one, other, most=200):
    check_most(most)
    check_alike_axes(one, other)
    return Group(one.axes(), one.makers() + other.makers(), most)


def check_within(group, part):
    if part.axes() != group.axes() or lacks(part, group) is not None:
        raise NotWithin("the one group doesn't lie in the other one")


def shares(group, part):
    check_within(group, part)
    lists = []
    shared = {}
    for number, member in enumerate(group.members()):
        if number not in shared:
            together = sorted([group.at(behind(lesser, member)) for lesser in part.members()])
            lists.append(together)
            for other in together:
                shared[other] = True
    return lists


def sign_rows(size):
    """All rows of so many numbers 1 or -1."""
    rows = [[]]
    for at in range(size):
        rows = [row + [-1] for row in rows] + [row + [1] for row in rows]
    return rows


def product_of(word, signs):
    product = 1
    for number in word:
        product = product * signs[number]
    return product


def multiplies(values, steps, signs):
    """Whether the value of each member and a maker behind it is the product of theirs."""
    # More isn't to be asked for: every member comes of makers one behind the other.
    for value, reached in zip(values, steps):
        for number, sign in zip(reached, signs):
            if values[number] != value * sign:
                return False
    return True


def halves(group):
    # The same members in the same order, of so few makers that all ways of giving them signs can be tried.
    same = group_of(group.axes(), group.members())
    words = same.words()
    makers = [same.at(maker) for maker in same.makers()]
    steps = [[same.product(i, maker) for maker in makers] for i in range(len(words))]
    ways = []
    for signs in sign_rows(len(makers)):
        values = [product_of(word, signs) for word in words]
        if -1 in values and multiplies(values, steps, signs):
            ways.append(tuple(values))
    return sorted(ways)
