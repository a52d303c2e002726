"""Deeds and places as texts."""

from crystalwords.deeds import deed
from crystalwords.errors import NoDeed, NoText
from crystalwords.numbers import divisor, figures
from crystalwords.places import place

LETTERS = "xyz"
FIGURES = "0123456789"
MOST_FIGURES = 100


def fraction_text(top, under):
    """Of a top from 0 on and an under from 1 on, in lowest terms."""
    common = divisor(top, under)
    if common == under:
        return figures(top // under)
    return figures(top // common) + "/" + figures(under // common)


def signed(number, text):
    return ("-" if number < 0 else "+") + text


def letter_text(number, letter):
    amount = "" if abs(number) == 1 else figures(abs(number))
    return signed(number, amount + letter)


def part_text(row, top, under):
    terms = [letter_text(number, letter) for number, letter in zip(row, LETTERS) if number != 0]
    if top != 0:
        terms.append(signed(top, fraction_text(abs(top), under)))
    text = "".join(terms)
    return text[1:] if text.startswith("+") else text


def shown(one):
    return ",".join([part_text(row, top, one[2]) for row, top in zip(one[0], one[1])])


def number_text(top, under):
    return ("-" if top < 0 else "") + fraction_text(abs(top), under)


def show_place(one):
    return ",".join([number_text(top, one[1]) for top in one[0]])


def read_whole(text):
    """A whole number from 1 on."""
    # Python's own int reads blanks, noughts ahead and figures of other scripts too.
    if text == "" or len(text) > MOST_FIGURES or text.startswith("0"):
        raise NoText("a whole number has one to a hundred figures, no 0 first")
    for sign in text:
        if sign not in FIGURES:
            raise NoText("a number has a sign that is no figure")
    return int(text)


def read_fraction(text):
    """A number above 0, as a pair of its top and its bottom."""
    pieces = text.split("/")
    if len(pieces) > 2:
        raise NoText("a fraction has one top and one bottom")
    top = read_whole(pieces[0])
    if len(pieces) == 1:
        return (top, 1)
    bottom = read_whole(pieces[1])
    if bottom == 1 or divisor(top, bottom) != 1:
        raise NoText("a fraction is in lowest terms, its bottom from 2 on")
    return (top, bottom)


def read_signed(text):
    if not text.startswith("-"):
        return read_fraction(text)
    pair = read_fraction(text[1:])
    return (-pair[0], pair[1])


def read_amount(text):
    """How many times a letter is taken, by what stands between its sign and it."""
    if text == "":
        return 1
    if text == "1":
        raise NoText("a 1 ahead of a letter is left out")
    return read_whole(text)


def terms_of(part):
    """The terms of a part, those with a - along with it, those with a + without."""
    if part.startswith("+"):
        raise NoText("a part begins with +")
    terms = part.replace("-", "+-").split("+")
    # Ahead of a - at the part's beginning there is no term.
    return terms[1:] if part.startswith("-") else terms


def read_part(part, letters):
    """The row of a part, and its number alone as a pair of its top and its bottom."""
    row = [0] * len(letters)
    alone = (0, 1)
    for term in terms_of(part):
        at = letters.find(term[-1:]) if term != "" else -1
        if at == -1:
            if alone[0] != 0:
                raise NoText("a part has two numbers alone")
            alone = read_signed(term)
        else:
            if row[at] != 0:
                raise NoText("a part has a letter twice")
            row[at] = -read_amount(term[1:-1]) if term.startswith("-") else read_amount(term[:-1])
    return (row, alone)


def parts_of(text):
    parts = text.split(",")
    if len(parts) not in (2, 3):
        raise NoText("there are 2 or 3 parts")
    return parts


def common_under(pairs):
    """Tops and an under of the same worth as pairs of a top and a bottom."""
    under = 1
    for pair in pairs:
        under = under * pair[1]
    return ([pair[0] * (under // pair[1]) for pair in pairs], under)


def read(text):
    parts = parts_of(text)
    told = [read_part(part, LETTERS[:len(parts)]) for part in parts]
    spot = common_under([pair[1] for pair in told])
    try:
        return deed([pair[0] for pair in told], spot[0], spot[1])
    except NoDeed:
        raise NoText("the rows have another determinant than 1 and -1") from None


def read_number(text):
    return (0, 1) if text == "0" else read_signed(text)


def read_place(text):
    spot = common_under([read_number(part) for part in parts_of(text)])
    return place(spot[0], spot[1])
