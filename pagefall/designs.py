"""Designs: a tree with a sheet, and the plans of it between the ends of conditions."""

from pagefall.dresses import Dressed
from pagefall.needs import Wants
from pagefall.plans import Plan
from pagefall.worths import all_worths


def wants_of(tree, sheet, width):
    """The needs and wishes of a page at a width, with its plan."""
    return Wants(Plan(Dressed(tree, all_worths(sheet, tree, width))))


class Design:
    """A tree with a sheet; it never changes."""

    def __init__(self, tree, sheet):
        self._tree = tree
        self._sheet = sheet
        self._ends = condition_ends(sheet)
        self._wants = {}

    def __eq__(self, other):
        return isinstance(other, Design) and self._tree == other._tree and self._sheet == other._sheet

    def own_tree(self):
        return self._tree

    def own_sheet(self):
        return self._sheet

    def wants_at(self, width):
        """The needs and wishes of the page at a width, with its plan, worked out once between ends of conditions."""
        end = [end for end in self._ends if end * width[1] <= width[0]][-1]
        if end not in self._wants:
            self._wants[end] = wants_of(self._tree, self._sheet, (end, 1))
        return self._wants[end]

    def grounds(self):
        """The stretches of widths between ends of conditions, one behind another."""
        highs = [(end, 1) for end in self._ends[1:]] + [None]
        return [((end, 1), True, high, False) for end, high in zip(self._ends, highs)]


def condition_ends(sheet):
    """The ascending widths at which other rules are on, 0 too."""
    conditions = [rule.condition for rule in sheet.own_rules() if rule.condition is not None]
    return sorted(set([0] + [end for condition in conditions for end in condition if end is not None]))
