"""The names, arguments and kinds of the interface are there as they stand."""

import importlib
import inspect
import unittest

import crystalwords.desk
import crystalwords.errors
import crystalwords.groups
import crystalwords.kinds

FUNCTIONS = {
    "numbers": ("divisor(one, other)",),
    "places": ("place(tops, under)", "rest_place(one)"),
    "deeds": (
        "deed(rows, tops, under)", "still(d)", "move(one)", "moved(one, spot)", "behind(one, other)", "back(one)",
        "again(one, times)", "rest(one)",
    ),
    "texts": ("read(text)", "shown(one)", "read_place(text)", "show_place(one)"),
    "wholerows": ("times(one, other)", "determinant(rows)"),
    "stairs": ("stairs(rows)",),
    "meets": ("met(rows, tops, under)", "whole_met(rows, tops, under)"),
    "kinds": ("span(rows)", "kind_of(one)"),
    "changes": (
        "change(vectors, spot)", "back_change(one)", "change_behind(one, other)", "old_place(spot, one)",
        "new_place(spot, one)", "new_deed(one, way)",
    ),
    "cells": ("changed(group, way, most=200)", "moves(group)", "least_cell(group)", "least_form(a, b, c)"),
    "gathered": ("alike(group, spot)", "own(group, spot)", "leading(group, spot, other)", "gathered(group, spots)"),
    "parts": (
        "lacks(one, other)", "common(one, other)", "both(one, other, most=200)", "shares(group, part)", "halves(group)",
    ),
    "seventeen": ("told_group(number)",),
    "marks": ("marks(group)", "unlike(one, other)"),
    "settle": ("settle(group)", "same(one, other)"),
    "drawings": ("read_drawing(text)", "show_drawing(drawing)", "lays(drawing, one)"),
    "found": ("sheet_turns(sheet)", "found_group(drawing, sheet)", "spread(group, n, m, signs)"),
}
METHODS = {
    crystalwords.kinds.Kind: ("word()", "fold()", "order()", "slide()", "at_rest()"),
    crystalwords.groups.Group: (
        "axes()", "makers()", "members()", "words()", "at(one)", "product(i, j)", "back_of(i)",
    ),
    crystalwords.desk.Desk: ("say(row)",),
}
REFUSALS = (
    "NoPlace NoDeed NoNumber NoText TooMany NoChange NotKept NoForm NotWithin NotLeast NoDrawing OffSheet NoSheet "
    "NoRow NoName"
).split()
KINDS = "Still Move Turn Screw Mirror Slide Point Twist Endless".split()


def told(name, thing, skip=0):
    parameters = list(inspect.signature(thing).parameters.values())[skip:]
    return f"{name}({', '.join(str(one) for one in parameters)})"


class Interface(unittest.TestCase):
    def test_functions(self):
        for file, texts in FUNCTIONS.items():
            module = importlib.import_module(f"crystalwords.{file}")
            for text in texts:
                name = text.split("(")[0]
                self.assertTrue(inspect.isfunction(getattr(module, name)))
                self.assertEqual(told(name, getattr(module, name)), text)

    def test_classes(self):
        self.assertEqual(told("Group", crystalwords.groups.Group), "Group(d, makers, most=200)")
        self.assertEqual(told("Desk", crystalwords.desk.Desk), "Desk()")
        for kind in METHODS:
            for text in METHODS[kind]:
                name = text.split("(")[0]
                self.assertEqual(told(name, getattr(kind, name), 1), text)

    def test_refusals(self):
        errors = crystalwords.errors
        self.assertEqual(errors.CrystalError.__bases__, (ValueError,))
        for name in REFUSALS:
            self.assertEqual(getattr(errors, name).__bases__, (errors.CrystalError,))
            self.assertIsInstance(getattr(errors, name)("words"), ValueError)

    def test_kinds(self):
        for name in KINDS:
            kind = getattr(crystalwords.kinds, name)
            self.assertEqual(kind.__bases__, (crystalwords.kinds.Kind,))
            self.assertEqual(told(name, kind), f"{name}(one)")

    def test_rowsay_is_there(self):
        importlib.import_module("crystalwords.rowsay")


if __name__ == "__main__":
    unittest.main()
