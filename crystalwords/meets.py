"""Is there a place that rows take to a told one? It is told, or else a row that shows that there is none."""

from crystalwords.places import place, rest_place
from crystalwords.stairs import stairs
from crystalwords.wholerows import dot


def leads_of(form):
    """The pairs (i, k) of a form with stairs: the first number of row i that isn't 0 is in place k."""
    leads = []
    for i, row in enumerate(form):
        standing = [k for k, number in enumerate(row) if number != 0]
        if len(standing) > 0:
            leads.append((i, standing[0]))
    return leads


def climbed(form, leads, tops, under):
    """A place that a form with stairs takes to the place (tops, under), but for rows of noughts."""
    scale = 1
    for lead in leads:
        scale = scale * form[lead[0]][lead[1]]
    numbers = [0] * len(form[0])
    for lead in reversed(leads):
        row = form[lead[0]]
        left = tops[lead[0]] * scale - dot(row, numbers)
        # The scale holds every lead, so that all of these divisions come out even.
        numbers[lead[1]] = left // row[lead[1]]
    return place(numbers, under * scale)


def meeting(rows, spot, fits):
    """A place, or a row of the record that turns rows to noughts and the spot's tops to what doesn't fit."""
    steps = stairs(rows)
    form = steps[0]
    record = steps[1]
    leads = leads_of(form)
    tops = [dot(line, spot[0]) for line in record]
    for i in range(len(leads), len(form)):
        if not fits(tops[i]):
            return ("row", tuple(record[i]))
    return ("place", climbed(form, leads, tops, spot[1]))


def met(rows, tops, under):
    return meeting(rows, place(tops, under), lambda top: top == 0)


def whole_met(rows, tops, under):
    spot = place(tops, under)
    told = meeting(rows, spot, lambda top: top % spot[1] == 0)
    if told[0] == "row":
        return told
    # Whole numbers added to the place alter what the rows make of it by whole numbers alone.
    return ("place", rest_place(told[1]))
