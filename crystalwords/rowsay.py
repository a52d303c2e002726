"""Rows of the desk: their words, and what these stand for."""

from crystalwords.drawings import SMALL_LETTERS, read_drawing
from crystalwords.errors import NoName, NoRow
from crystalwords.groups import Group
from crystalwords.texts import FIGURES, read, read_place

LONGEST_NAME = 8
MOST_FIGURES = 9
# By its first word, the sorts of a row's other words.
FORMS = {
    "group": ("new", "number"),
    "size": ("group",),
    "member": ("group", "number"),
    "has": ("group", "deed"),
    "kind": ("deed",),
    "alike": ("group", "place"),
    "lead": ("group", "place", "place"),
    "in": ("group", "group"),
    "cell": ("new", "group"),
    "base": ("new", "group", "place", "place", "place"),
    "settle": ("group",),
    "same": ("group", "group"),
    "draw": ("new", "rows"),
    "show": ("drawing",),
    "lay": ("drawing", "deed"),
    "find": ("new", "drawing", "word"),
    "spread": ("new", "group", "number", "number", "word"),
}


def is_number(word):
    if len(word) > MOST_FIGURES or any([sign not in FIGURES for sign in word]):
        return False
    return word == "0" or not word.startswith("0")


def split_row(row):
    if not isinstance(row, str):
        raise NoRow("a row is a text")
    # Only the blank parts words: a line end or a tab is a sign of the word in which it stands.
    words = row.split(" ")
    if "" in words:
        raise NoRow("words stand with one blank between each two")
    return words


def sorts_of(first, count):
    """The sorts of a row's words behind the first one, of which there are so many."""
    if first not in FORMS:
        raise NoRow("no row begins with this word")
    sorts = list(FORMS[first])
    more = count - len(sorts)
    if first == "group":
        sorts.extend(["deed"] * more)
    if first == "base" and more == 1:
        sorts.append("place")
    if len(sorts) != count:
        raise NoRow("the row has too few words or too many")
    return sorts


def words_of(row):
    """A row's first word, and its others as pairs of a sort and a word."""
    words = split_row(row)
    pairs = list(zip(sorts_of(words[0], len(words) - 1), words[1:]))
    for pair in pairs:
        if pair[0] == "number" and not is_number(pair[1]):
            raise NoRow("a number is written with one to nine figures, without noughts ahead")
    return (words[0], pairs)


def new_name(word):
    if len(word) > LONGEST_NAME or any([sign not in SMALL_LETTERS for sign in word]):
        raise NoName("a name has one to eight small letters")
    return word


def thing_named(sort, word, things):
    # Nothing is kept by what is no name.
    if word not in things:
        raise NoName("the name stands for nothing")
    thing = things[word]
    if isinstance(thing, Group) != (sort == "group"):
        raise NoName("the name stands for a thing of the other sort")
    return thing


def value_of(sort, word, things):
    if sort in ("group", "drawing"):
        return thing_named(sort, word, things)
    if sort == "new":
        return new_name(word)
    if sort == "number":
        return int(word)
    if sort == "deed":
        return read(word)
    if sort == "place":
        return read_place(word)
    if sort == "rows":
        return read_drawing(word)
    return word


def values_of(pairs, things):
    return [value_of(pair[0], pair[1], things) for pair in pairs]
