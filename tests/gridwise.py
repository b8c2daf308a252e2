"""Pictures cell by cell on the grid of all edges, and some that look thrown."""

from fractions import Fraction

from pagefall.pictures import Picture


def fraction(number):
    number = Fraction(number)
    return (number.numerator, number.denominator)


def rectangle_holds(rectangle, x, y):
    left, top, width, height = rectangle
    return Fraction(*left) <= x < Fraction(*left) + Fraction(*width) and top <= y < top + height


def middles(edges):
    return [(low + high) / 2 for low, high in zip(edges, edges[1:])]


def cells_of(rectangles):
    """The cells (x, y, area), by their middles, between all edges of some rectangles, and a rim around them."""
    xs = {Fraction(*left) + part for left, _, width, _ in rectangles for part in (0, Fraction(*width))} | {Fraction(0)}
    ys = {Fraction(top + part) for _, top, _, height in rectangles for part in (0, height)} | {Fraction(0)}
    xs, ys = [[min(row) - 1] + sorted(row) + [max(row) + 1] for row in (xs, ys)]
    return [((left + right) / 2, (top + foot) / 2, (right - left) * (foot - top))
            for left, right in zip(xs, xs[1:]) for top, foot in zip(ys, ys[1:])]


def region_holds(region, x, y):
    return any(top <= y < foot and any(Fraction(*left) <= x < Fraction(*right) for left, right in runs) for top, foot, runs in region)


def rectangles_in(region):
    return [(left, top, fraction(Fraction(*right) - Fraction(*left)), foot - top) for top, foot, runs in region for left, right in runs]


def some_rectangle(dice, most=9):
    bottom = 1 + dice.throw(3)
    return (fraction(Fraction(dice.throw(most * bottom) - 3, bottom)), dice.throw(most) - 2, fraction(Fraction(dice.throw(most * bottom), bottom)), dice.throw(most))


def some_picture(dice, many, signs="abc"):
    shapes = []
    for _ in range(many):
        shapes.append((dice.pick(["m", (), (1, 2)]),) + some_rectangle(dice) + (dice.pick(list(signs) + [None]),))
    return Picture(shapes)


def shape_holds(shape, x, y):
    return rectangle_holds(shape[1:5], x, y)


def plain_sign(picture, x, y):
    signs = [shape[5] for shape in picture.all_shapes() if shape[5] is not None and shape_holds(shape, x, y)]
    return signs[-1] if signs else None
