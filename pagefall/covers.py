"""What of a picture is seen, and what covers a shape."""

from pagefall.errors import BadNumber
from pagefall.grids import painted_on
from pagefall.kinds import is_list, is_whole
from pagefall.regions import area_of


def painted_with(picture, number):
    """A picture on its grid, if a number is that of a shape."""
    if not is_whole(number) or number >= len(picture.all_shapes()):
        raise BadNumber(number)
    return painted_on(picture)


def seen_region(picture, number):
    """The region of the points that a shape holds and no later one that paints does."""
    painted = painted_with(picture, number)
    return painted.grid.region_of(painted.rows_seen(number))


def first_seen(picture, number):
    """The point (left, top) at which a shape is seen first, None if it is covered."""
    region = seen_region(picture, number)
    return (region[0][2][0][0], region[0][0]) if region else None


def joined_bits(rows, wanted):
    """All cells that are wanted in rows, as one integer."""
    bits = 0
    for row, kept in zip(rows, wanted):
        bits = bits << kept.bit_length() | row & kept
    return bits


class Cover:
    """What is looked for: as few shapes as can be that hold all cells; parts are their indexes and cells.

    rests tells what all the parts from one on hold.
    """

    def __init__(self, parts, whole):
        self.parts = parts
        self.whole = whole
        self.rests = [0]
        for _, cells in parts[::-1]:
            self.rests.append(self.rests[-1] | cells)
        self.rests.reverse()

    def first_of(self, many, at, held):
        """The first list of so many parts, from one on, that hold all cells with what is held, or None."""
        if many == 0:
            return [] if held == self.whole else None
        for start in range(at, len(self.parts) - many + 1):
            if held | self.rests[start] != self.whole:
                return None
            number, cells = self.parts[start]
            rest = self.first_of(many - 1, start + 1, held | cells)
            if rest is not None:
                return [number] + rest
        return None


def least_cover(picture, number):
    """The first list of as few later shapes as can be that hold all that a shape holds, or None."""
    painted = painted_with(picture, number)
    wanted = painted.rows[number]
    later = painted.later_painting(number)
    cover = Cover([(index, joined_bits(painted.rows[index], wanted)) for index in later], joined_bits(wanted, wanted))
    for many in range(len(later) + 1):
        found = cover.first_of(many, 0, 0)
        if found is not None:
            return found
    return None


def is_cover(picture, number, thing):
    """Whether any object is a list of unlike later shapes that paint and hold all that a shape holds."""
    painted = painted_with(picture, number)
    later = painted.later_painting(number)
    if not is_list(thing) or not all([is_whole(index) and index in later for index in thing]):
        return False
    return len(set(thing)) == len(thing) and not any(painted.rows_left(number, thing))


def sign_areas(picture):
    """The ascending dict from the signs that are told somewhere to their areas."""
    painted = painted_on(picture)
    rows = painted.rows_by_signs()
    return {sign: area_of(painted.grid.region_of(rows[sign])) for sign in sorted(rows)}


def unlike_region(one, other):
    """The region of the points with unlike signs in two pictures."""
    painted = painted_on(one, [other])
    signs = painted.rows_by_signs()
    others = painted_on(other, [one]).rows_by_signs()
    nothing = [0] * len(painted.grid.ys)
    unlike = nothing
    for sign in sorted(set(list(signs) + list(others))):
        pairs = list(zip(signs.get(sign, nothing), others.get(sign, nothing)))
        unlike = [bits | (left ^ right) for bits, (left, right) in zip(unlike, pairs)]
    return painted.grid.region_of(unlike)


def least_shapes(picture):
    """The indexes of the shapes that are left if, from the last one back, each covered one is left out."""
    painted = painted_on(picture)
    kept = []
    for number in range(len(painted.shapes) - 1, -1, -1):
        if painted.paints(number) and any(painted.rows_left(number, kept)):
            kept.append(number)
    return kept[::-1]
