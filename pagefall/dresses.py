"""Dressed trees: trees with a worth of each property for each element."""

from pagefall.errors import BadWord
from pagefall.properties import PROPERTIES, first_worth, is_property, is_worth, told_value
from pagefall.refusals import BadDress


def is_dress(thing):
    """Whether a thing is a dict from properties to worths."""
    if not isinstance(thing, dict):
        return False
    return all([is_property(word) and is_worth(word, value) for word, value in thing.items()])


def dressed_worths(path, told):
    """The worths of all properties of an element of which some are told."""
    worths = {}
    for word in PROPERTIES:
        worths[word] = told_value(told[word]) if word in told else first_worth(word, path == ())
    return worths


class Dressed:
    """A tree with worths; it never changes."""

    def __init__(self, tree, rows):
        if not isinstance(rows, dict):
            raise BadDress(rows)
        for path, told in rows.items():
            if not tree.has_element(path) or not is_dress(told):
                raise BadDress(path)
        self._tree = tree
        self._worths = {path: dressed_worths(path, rows.get(path, {})) for path in tree.all_elements()}

    def __eq__(self, other):
        return isinstance(other, Dressed) and self._tree == other._tree and self._worths == other._worths

    def own_tree(self):
        return self._tree

    def row_at(self, path):
        """The worths of an element, for reading alone."""
        return self._worths[path]

    def worth_at(self, path, word):
        """The worth of a property of the element at a path."""
        path = self._tree.element_path(path)
        if not is_property(word):
            raise BadWord(word)
        return self._worths[path][word]
