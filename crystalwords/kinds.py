"""The nine kinds of deeds."""

from crystalwords.deeds import again
from crystalwords.meets import met
from crystalwords.places import place
from crystalwords.wholerows import determinant, still_rows, times

# No rows of whole numbers of the plane or of space come back later, if they come back at all.
LONGEST_SPAN = 6


def span(rows):
    still = still_rows(len(rows))
    reached = [list(row) for row in rows]
    for count in range(1, LONGEST_SPAN + 1):
        if reached == still:
            return count
        reached = times(reached, rows)
    return 0


def signs_turned(rows):
    return [[-number for number in row] for row in rows]


def fold_of(rows):
    # The span is 0 or not for both signs alike.
    return span(rows) if determinant(rows) == 1 else span(signs_turned(rows))


def slide_of(one):
    """By which place a deed slides, or None where its span is 0."""
    count = span(one[0])
    if count == 0:
        return None
    far = again(one, count)
    return place(far[1], far[2] * count)


def less_still(rows):
    return [[number - unit for number, unit in zip(row, units)] for row, units in zip(rows, still_rows(len(rows)))]


def is_nought(spot):
    return not any(spot[0])


class Kind:
    def __init__(self, one):
        self.one = one

    def word(self):
        raise NotImplementedError("each of the nine kinds has its own word")

    def fold(self):
        return fold_of(self.one[0])

    def order(self):
        drift = self.slide()
        # Where it doesn't slide, it is still as soon as its rows are.
        return span(self.one[0]) if drift is not None and is_nought(drift) else 0

    def slide(self):
        return slide_of(self.one)

    def at_rest(self):
        return met(less_still(self.one[0]), [-top for top in self.one[1]], self.one[2])


class Still(Kind):
    def word(self):
        return "still"


class Move(Kind):
    def word(self):
        return "move"


class Turn(Kind):
    def word(self):
        return "turn"


class Screw(Kind):
    def word(self):
        return "screw"


class Mirror(Kind):
    def word(self):
        return "mirror"


class Slide(Kind):
    def word(self):
        return "slide"


class Point(Kind):
    def word(self):
        return "point"


class Twist(Kind):
    def word(self):
        return "twist"


class Endless(Kind):
    def word(self):
        return "endless"


def kind_of(one):
    drift = slide_of(one)
    if drift is None:
        return Endless(one)
    if determinant(one[0]) == 1:
        return unmirrored(one, is_nought(drift))
    return mirrored(one, is_nought(drift))


def unmirrored(one, stays):
    if fold_of(one[0]) == 1:
        return Still(one) if stays else Move(one)
    return Turn(one) if stays else Screw(one)


def mirrored(one, stays):
    fold = fold_of(one[0])
    if fold == 1:
        return Point(one)
    if fold > 2:
        return Twist(one)
    return Mirror(one) if stays else Slide(one)
