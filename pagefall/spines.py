"""Spines: what is asked of an element is asked of these letters."""

from pagefall.choosers import Chooser
from pagefall.errors import BadSpine
from pagefall.kinds import is_list, is_word, is_words
from pagefall.selectors import check_selector
from pagefall.trees import Tree

STEPS = ("root", "first", "next")


def spine_of(tree, path):
    """The spine of the element at a path, in letters."""
    return [spot.letter() for spot in tree.spine_spots(tree.element_path(path))]


def is_letter(thing):
    """Whether a thing is a letter, its classes ascending."""
    if not is_list(thing) or len(thing) != 3:
        return False
    step, name, classes = thing
    if not isinstance(step, str) or step not in STEPS or not is_word(name):
        return False
    return is_words(classes) and list(classes) == sorted(classes)


def is_spine(thing):
    """Whether a thing is a list of letters that stand behind one another as those of a spine."""
    if not is_list(thing) or len(thing) == 0 or not all([is_letter(letter) for letter in thing]):
        return False
    if thing[0][0] != "root" or any([letter[0] == "root" for letter in thing[1:]]):
        return False
    return len(thing) == 1 or thing[1][0] == "first"


def check_spine(thing):
    if not is_spine(thing):
        raise BadSpine(thing)


def tree_along(spine):
    """The tree of just the elements of a spine."""
    check_spine(spine)
    root = [spine[0][1], spine[0][2], []]
    parent, last = None, root
    for step, name, classes in spine[1:]:
        if step == "first":
            parent = last
        last = [name, classes, []]
        parent[2].append(last)
    return Tree(root)


def path_along(spine):
    """The path of the last element of a spine in its tree."""
    check_spine(spine)
    path = []
    for step, _, _ in spine[1:]:
        if step == "first":
            path.append(0)
        else:
            path[-1] += 1
    return tuple(path)


def is_spine_matched(spine, selector):
    """Whether a selector matches the last element of a spine."""
    check_spine(spine)
    check_selector(selector)
    return bool(Chooser(selector).helds_along(spine)[-1][0] & 1)
