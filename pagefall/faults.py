"""Layouts looked through: the first thing at which something is not the layout."""

from pagefall.kinds import is_integer, is_list, is_path, is_whole
from pagefall.layouts import layout_at
from pagefall.ratios import is_fraction, told_fraction

PARTS = ("x", "y", "width", "height")


def is_that_box(thing, box):
    """Whether any object has six parts, the id and the kind of a told box."""
    if not is_list(thing) or len(thing) != 6:
        return False
    number, kind = thing[:2]
    if not is_list(number) or len(number) != 2 or not is_path(number[0]) or not is_whole(number[1]):
        return False
    return (tuple(number[0]), number[1]) == box[0] and kind == box[1]


def is_that_part(thing, part):
    """Whether any object is a told number, a fraction in any terms."""
    if is_integer(part):
        return is_integer(thing) and thing == part
    return is_fraction(thing) and told_fraction(thing) == part


def box_fault(thing, box):
    """The first word for which any object is not a told box, or None."""
    if not is_that_box(thing, box):
        return "box"
    wrong = [word for word, given, part in zip(PARTS, thing[2:], box[2:]) if not is_that_part(given, part)]
    return wrong[0] if wrong else None


def first_fault(design, width, thing):
    """The pair of the first index at which any object is not the layout, and the word for which, or None."""
    boxes = layout_at(design, width)
    if not is_list(thing):
        return (0, "list")
    for index, (given, box) in enumerate(zip(thing, boxes)):
        word = box_fault(given, box)
        if word is not None:
            return (index, word)
    return None if len(thing) == len(boxes) else (min(len(thing), len(boxes)), "box")
