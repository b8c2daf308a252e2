"""What the document promises over the whole program."""

import importlib
import inspect
import unittest

from naive import Dice
from pagefall.columns import Columns
from pagefall.deads import alive_sheet, dead_ones
from pagefall.designs import Design
from pagefall.dresses import Dressed
from pagefall.errors import PageError
from pagefall.layouts import layout_at
from pagefall.pages import Page
from pagefall.pictures import Picture, painted_page
from pagefall.rows import Row
from pagefall.sheets import Sheet
from pagefall.trees import Tree
from pagefall.twos import alike_widths
from pagefall.worths import all_worths
from plainpage import some_design
from spinewise import some_sheet
from test_interface import CLASSES, FUNCTIONS

SELECTOR = [(None, ("b", ["k"], [], None))]
RULE = (0, SELECTOR, {"ink": "r", "width": 5, "show": "block", "--w": 3}, (0, 9))
TREE = Tree(("a", [], ["so on", ("b", ["k"], ["aa"])]))
SHEET = Sheet([RULE])
DESIGN = Design(TREE, SHEET)
SPINE = [("root", "a", ()), ("first", "b", ("k",))]
STAND = ((0,), (), (), (), ())
ACROSS = (5, 0, "none", 0, 0, 0, 0)
RUN = [(10, "aa bb c"), ("left", 3, 4)]
SHAPE = ("m", (0, 1), 0, (2, 1), 2, "a")
REGION = [(0, 1, (((0, 1), (2, 1)),))]
FORM = ((1, 1), (1, 2))
STRETCHES = [((0, 1), True, (5, 1), False)]
ROW = Row([((5, 1), 1, 1, 0, None)])
COLUMNS = Columns(2, [(0, 0, 2, 3)])
# What each parameter is passed, by its name, and, where a function asks for something else, by both names.
USUAL = {
    "tree": TREE, "path": (1,), "selector": SELECTOR, "spine": SPINE, "nest": None, "sheet": SHEET, "width": (4, 1), "design": DESIGN, "thing": 5, "one": None,
    "other": None, "klass": "k", "word": "ink", "node": ("c", [], []), "at": (0,), "text": "a", "root": ("a", [], []), "has": [SELECTOR], "lacks": [],
    "selectors": [SELECTOR], "part": (0, "name", "b"), "rules": [RULE], "rule": RULE, "number": 0, "reasons": [], "wishes": {"ink": "r"}, "others": {"ink": "r"},
    "upper": {}, "lower": {}, "where": "own", "rows": {}, "dressed": Dressed(TREE, {(1,): {"show": "block"}}), "shape": ("lines", ()), "told": ACROSS, "room": (9, 1),
    "margins": [1, 2], "run": RUN, "many": 2, "align": "mid", "items": [((5, 1), 1, 1, 0, None)], "gap": 2, "index": 0, "size": (5, 1), "cells": [(0, 0, 2, 3)],
    "line": 1, "place": (3, 1), "form": FORM, "share": (1, 2), "forms": [FORM], "some": STRETCHES, "box": ((1,), 0), "wish": ("wide", (1,), 3), "name": "width",
    "shapes": [SHAPE], "picture": Picture([SHAPE, SHAPE]), "x": (1, 1), "y": (1, 1), "rectangles": [((0, 1), 0, (2, 1), 2)], "region": REGION, "value": ("part", 5),
    "held": STAND, "letter": ("next", "b", ()),
}
SPECIAL = {
    ("reading", "text"): "<b>a</b>", ("stacks", "rows"): [(1, 2, 3)], ("twos", "one"): DESIGN, ("twos", "other"): Design(TREE, Sheet([])), ("regions", "one"): REGION,
    ("regions", "other"): [(0, 2, (((1, 1), (3, 1)),))], ("covers", "one"): Picture([SHAPE]), ("covers", "other"): Picture([]), ("stretches", "one"): STRETCHES,
    ("stretches", "other"): [((3, 1), True, None, False)], ("where_upto", "one"): FORM, ("where_upto", "other"): ((3, 1), (0, 1)), ("where_below", "one"): FORM,
    ("where_below", "other"): ((3, 1), (0, 1)), ("forms", "one"): FORM, ("forms", "other"): FORM, ("across", "other"): (6,) + ACROSS[1:], ("lines", "one"): RUN,
    ("lines", "other"): [(10, "x bb c")], ("columns", "one"): COLUMNS, ("columns", "other"): Columns(2, []), ("distances_of", "one"): 0, ("distances_of", "other"): 1,
    ("rows", "one"): ROW, ("rows", "other"): Row([((6, 1), 1, 1, 0, None)]), ("alltrees", "one"): SELECTOR, ("alltrees", "other"): [(None, ("b", [], [], None))],
    ("own_worth", "word"): "--w", ("new_text", "path"): (0,), ("read_selector", "text"): "b.k", ("read_value", "text"): "5p", ("read_sheet", "text"): "rule 0 - b\n",
    ("new_text", "text"): "bb", ("with_text", "path"): (0,), ("with_text", "text"): "bb", ("home_of", "path"): (0,), ("slips_of", "text"): "<b>&", ("without_class", "klass"): "k",
    ("reach_shown", "where"): "own", ("sheets", "number"): 0, ("Page", "sheet"): SHEET,
}
OBJECTS = {"Tree": TREE, "Sheet": SHEET, "Dressed": USUAL["dressed"], "Row": ROW, "Columns": COLUMNS, "Design": DESIGN, "Picture": Picture([SHAPE])}


def argument(file, name, parameter):
    for key in ((name, parameter), (file, parameter)):
        if key in SPECIAL:
            return SPECIAL[key]
    return (lambda held: held.width_now()) if parameter == "work" else USUAL[parameter]


class WholeTest(unittest.TestCase):
    def told(self, work, /, *arguments, **more):
        try:
            return work(*arguments, **more)
        except PageError as caught:
            return (caught.__class__, vars(caught))

    def check(self, file, name, work, make):
        """That a function tells the same by place, by names, and by names in another order."""
        parameters = [parameter for parameter in inspect.signature(work).parameters if parameter != "self"]
        if name == "__eq__":
            return 0
        values = {parameter: argument(file, name, parameter) for parameter in parameters}
        by_place = self.told(make(), *values.values())
        self.assertEqual(self.told(make(), **values), by_place, name)
        self.assertEqual(self.told(make(), **dict(reversed(list(values.items())))), by_place, name)
        self.assertFalse(isinstance(by_place, tuple) and len(by_place) == 2 and isinstance(by_place[0], type), (name, by_place))
        return len(parameters)

    def test_functions_by_the_names_of_their_parameters(self):
        asked = 0
        for file, rows in FUNCTIONS.items():
            module = importlib.import_module("pagefall." + file)
            for row in rows:
                name = row.partition("(")[0]
                asked += self.check(file, name, getattr(module, name), lambda: getattr(module, name))
        self.assertGreater(asked, 150)

    def test_methods_by_the_names_of_their_parameters(self):
        for (file, owner), rows in CLASSES.items():
            made = getattr(importlib.import_module("pagefall." + file), owner)
            for row in rows:
                name = row.partition("(")[0]
                if name == "__init__":
                    self.check(file, owner, made, lambda: made)
                else:
                    self.check(file, name, getattr(made, name), lambda: getattr(OBJECTS.get(owner) or Page(TREE, SHEET, (4, 1)), name))

    def test_sheets_without_what_is_dead(self):
        dice = Dice(161)
        dead = 0
        for _ in range(12):
            rules = some_sheet(dice, 120).all_rules()
            # Of a rule that is told twice the first one never wins.
            sheet = Sheet(rules + [dice.pick(rules)])
            alive = alive_sheet(sheet)
            dead += len(dead_ones(sheet)) > 0
            for _ in range(3):
                tree = some_design(dice, 9, 0).own_tree()
                one, other = Design(tree, sheet), Design(tree, alive)
                self.assertEqual(alike_widths(one, other), [((0, 1), True, None, False)])
                for width in ((0, 1), (60, 1), (150, 1)):
                    self.assertEqual(all_worths(sheet, tree, width), all_worths(alive, tree, width))
                    self.assertEqual(layout_at(one, width), layout_at(other, width))
                    self.assertTrue(painted_page(one, width) == painted_page(other, width))
        self.assertGreater(dead, 3)

    def test_what_is_passed_stays(self):
        root = ["a", ["k"], ["so", ["b", [], []]]]
        rules = [[0, [[None, ["b", [], [], None]]], {"width": ["part", 5]}, [0, 5]]]
        design = Design(Tree(root), Sheet(rules))
        layout_at(design, [4, 1])
        Page(Tree(root), Sheet(rules), [4, 1]).put_node([0], root)
        self.assertEqual(root, ["a", ["k"], ["so", ["b", [], []]]])
        self.assertEqual(rules, [[0, [[None, ["b", [], [], None]]], {"width": ["part", 5]}, [0, 5]]])


if __name__ == "__main__":
    unittest.main()
