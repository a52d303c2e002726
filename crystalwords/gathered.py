"""Places that are alike for a group, and the deeds that lead from one to another."""

from crystalwords.deeds import behind, move, moved
from crystalwords.places import place_less, rest_place


def alike(group, spot):
    numbers = {}
    for number, member in enumerate(group.members()):
        reached = rest_place(moved(member, spot))
        if reached not in numbers:
            numbers[reached] = number
    return [(reached, numbers[reached]) for reached in sorted(numbers)]


def all_leading(group, spot, other):
    """All deeds, members but for whole moves, that take one place just to another."""
    deeds = []
    for member in group.members():
        gap = place_less(other, moved(member, spot))
        if gap[1] == 1:
            deeds.append(behind(member, move(gap)))
    return deeds


def own(group, spot):
    return sorted(all_leading(group, spot, spot))


def leading(group, spot, other):
    deeds = all_leading(group, spot, other)
    return deeds[0] if len(deeds) > 0 else None


def gathered(group, spots):
    lists = {}
    for number, spot in enumerate(spots):
        # Alike places have the same alike places, so the least of them stands for all.
        first = alike(group, spot)[0][0]
        lists[first] = lists.get(first, []) + [number]
    return list(lists.values())
