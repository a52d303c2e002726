"""Rows of whole numbers: lists of lists."""


def still_rows(size):
    return [[1 if i == k else 0 for k in range(size)] for i in range(size)]


def dot(one, other):
    return sum([left * right for left, right in zip(one, other)])


def turned(rows):
    """The columns of rows, as rows."""
    return [[row[k] for row in rows] for k in range(len(rows[0]))]


def times(one, other):
    columns = turned(other)
    return [[dot(row, column) for column in columns] for row in one]


def without(rows, i, k):
    """Rows but row i, without their numbers in place k."""
    return [list(row[:k]) + list(row[k + 1:]) for at, row in enumerate(rows) if at != i]


def determinant(rows):
    if len(rows) == 1:
        return rows[0][0]
    total = 0
    sign = 1
    for k, number in enumerate(rows[0]):
        if number != 0:
            total += sign * number * determinant(without(rows, 0, k))
        sign = -sign
    return total


def cofactor(rows, i, k):
    sign = 1 if (i + k) % 2 == 0 else -1
    return sign * determinant(without(rows, i, k))


def crossed(rows):
    """Of two rows or more: the rows that, times them, are the still rows times the determinant."""
    size = len(rows)
    return [[cofactor(rows, k, i) for k in range(size)] for i in range(size)]


def scaled(rows, count):
    return [[count * number for number in row] for row in rows]


def inverse(rows):
    """Of two rows or more, of determinant 1 or -1: the rows that, times them, are the still rows."""
    # To divide by 1 or -1 is to multiply with it.
    return scaled(crossed(rows), determinant(rows))
