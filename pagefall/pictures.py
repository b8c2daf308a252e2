"""Pictures: shapes painted one over another, and the picture of a page."""

from pagefall.kinds import SIGNS, is_integer, is_list, is_path, is_whole, is_width, is_word
from pagefall.layouts import depths_at, told_boxes
from pagefall.painting import painted_shapes
from pagefall.ratios import is_at_most, is_below, is_fraction, plus, told_fraction
from pagefall.refusals import BadPoint, BadShape


def is_sign(thing):
    return isinstance(thing, str) and len(thing) == 1 and thing in SIGNS


def is_painted_shape(thing):
    """Whether a thing is a tuple (mark, left, top, width, height, sign)."""
    if not is_list(thing) or len(thing) != 6:
        return False
    mark, left, top, width, height, sign = thing
    if not is_word(mark) and not is_path(mark) or sign is not None and not is_sign(sign):
        return False
    return is_fraction(left) and is_integer(top) and is_width(width) and is_whole(height)


def told_shape(shape):
    mark, left, top, width, height, sign = shape
    return (tuple(mark) if is_list(mark) else mark, told_fraction(left), top, told_fraction(width), height, sign)


class Picture:
    """Shapes painted one over another, the first one first; it never changes."""

    def __init__(self, shapes):
        if not is_list(shapes):
            raise BadShape(0)
        for index, shape in enumerate(shapes):
            if not is_painted_shape(shape):
                raise BadShape(index)
        self._shapes = [told_shape(shape) for shape in shapes]

    def __eq__(self, other):
        return isinstance(other, Picture) and self._shapes == other._shapes

    def all_shapes(self):
        return list(self._shapes)


def holds_point(shape, x, y):
    """Whether a shape holds a point: its left and top are in it, its right and foot are not."""
    _, left, top, width, height, _ = shape
    if not is_at_most(left, x) or not is_below(x, plus(left, width)):
        return False
    return is_at_most((top, 1), y) and is_below(y, (top + height, 1))


def holders_at(picture, x, y):
    """The indexes of the shapes that hold a point."""
    if not is_fraction(x) or not is_fraction(y):
        raise BadPoint(x, y)
    return [index for index, shape in enumerate(picture.all_shapes()) if holds_point(shape, x, y)]


def sign_at(picture, x, y):
    """The sign of the last shape that paints and holds a point, or None."""
    shapes = picture.all_shapes()
    signs = [shapes[index][5] for index in holders_at(picture, x, y) if shapes[index][5] is not None]
    return signs[-1] if signs else None


def shape_at(picture, x, y):
    """The index of the last shape that holds a point, or None."""
    found = holders_at(picture, x, y)
    return found[-1] if found else None


def painted_page(design, width):
    """The picture of a design's layout at a width."""
    depths = depths_at(design, width)
    return Picture(painted_shapes(depths.plan, told_boxes(depths)))
