"""The stairs of rows: the one form to which whole steps lead, with the record of the steps and the way back."""

from crystalwords.numbers import nearest
from crystalwords.wholerows import still_rows, turned


def less(one, other, count):
    return [left - count * right for left, right in zip(one, other)]


def exchange(table, i, j):
    held = table[i]
    table[i] = table[j]
    table[j] = held


def turn_signs(table, i):
    table[i] = [-number for number in table[i]]


class Steps:
    """Rows on their way to the stairs."""

    def __init__(self, rows):
        units = still_rows(len(rows))
        # A row and its row of the record are one line, for each step does the same to both.
        self.lines = [list(row) + unit for row, unit in zip(rows, units)]
        # The way back is kept by columns, for each step alters one of them.
        self.columns = still_rows(len(rows))

    def take(self, i, j, count):
        """Takes line j so many times from line i."""
        self.lines[i] = less(self.lines[i], self.lines[j], count)
        self.columns[j] = less(self.columns[j], self.columns[i], -count)

    def rising(self, top, k):
        """The numbers of the lines from top on that have another number than 0 in place k, the greatest last."""
        lines = self.lines
        standing = [i for i in range(top, len(lines)) if lines[i][k] != 0]
        return sorted(standing, key=lambda i: abs(lines[i][k]))

    def gather(self, top, k):
        """Leaves at most one of the lines from top on with another number than 0 in place k; tells whether one."""
        standing = self.rising(top, k)
        while len(standing) > 1:
            # The greatest less the one next to it: so the counts are small, and the record's numbers grow slowly.
            i = standing[-1]
            j = standing[-2]
            self.take(i, j, nearest(self.lines[i][k], self.lines[j][k]))
            standing = self.rising(top, k)
        if len(standing) == 1:
            exchange(self.lines, top, standing[0])
            exchange(self.columns, top, standing[0])
        return len(standing) == 1

    def set_lead(self, top, k):
        """Brings the lead of line top, in place k, above 0, and the numbers above it to their rests."""
        if self.lines[top][k] < 0:
            turn_signs(self.lines, top)
            turn_signs(self.columns, top)
        for i in range(top):
            self.take(i, top, self.lines[i][k] // self.lines[top][k])


def stairs(rows):
    width = len(rows[0])
    steps = Steps(rows)
    top = 0
    for k in range(width):
        if steps.gather(top, k):
            steps.set_lead(top, k)
            top += 1
    form = [line[:width] for line in steps.lines]
    record = [line[width:] for line in steps.lines]
    return (form, record, turned(steps.columns))
