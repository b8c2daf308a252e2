"""Grids: rows of cells between all edges of some rectangles, the cells of a row being bits."""

from pagefall.ratios import ascending, plus


class Grid:
    """The cells between some ascending lefts and rights (fractions) and between some tops and feet (integers)."""

    def __init__(self, xs, ys):
        self.xs = ascending(xs)
        self.ys = sorted(set(ys))
        self.columns = {x: at for at, x in enumerate(self.xs)}

    def bits_of(self, runs):
        """The cells of a row that are in some runs between edges."""
        bits = 0
        for left, right in runs:
            bits |= (1 << self.columns[right]) - (1 << self.columns[left])
        return bits

    def rows_of(self, slabs):
        """The bits of all rows of the cells in some slabs whose edges are in the grid."""
        rows = [0] * len(self.ys)
        for top, foot, runs in slabs:
            bits = self.bits_of(runs)
            for at in range(len(self.ys)):
                if top <= self.ys[at] < foot:
                    rows[at] |= bits
        return rows

    def runs_of(self, bits):
        """The tuple of the runs of the cells in bits."""
        runs = []
        at = 0
        while bits >> at:
            if bits >> at & 1:
                start = at
                while bits >> at & 1:
                    at += 1
                runs.append((self.xs[start], self.xs[at]))
            else:
                at += 1
        return tuple(runs)

    def region_of(self, rows):
        """The region of the cells in the bits of all rows."""
        region = []
        for at in range(len(self.ys) - 1):
            runs = self.runs_of(rows[at])
            if runs and region and region[-1][1] == self.ys[at] and region[-1][2] == runs:
                region[-1] = (region[-1][0], self.ys[at + 1], runs)
            elif runs:
                region.append((self.ys[at], self.ys[at + 1], runs))
        return region


def grid_around(slabs):
    """The grid of all edges of some slabs."""
    return Grid([x for _, _, runs in slabs for run in runs for x in run], [y for slab in slabs for y in slab[:2]])


def slab_of(left, top, width, height):
    """The slab of a rectangle, perhaps without any cell."""
    return (top, top + height, ((left, plus(left, width)),))


def shape_slab(shape):
    _, left, top, width, height, _ = shape
    return slab_of(left, top, width, height)


class Painted:
    """A picture on the grid of all its edges, and perhaps those of others: the bits of the rows of each shape."""

    def __init__(self, shapes, grid):
        self.shapes = shapes
        self.grid = grid
        self.rows = [grid.rows_of([shape_slab(shape)]) for shape in shapes]

    def paints(self, number):
        return self.shapes[number][5] is not None

    def later_painting(self, number):
        """The indexes of later shapes that paint."""
        return [later for later in range(number + 1, len(self.shapes)) if self.paints(later)]

    def rows_left(self, number, others):
        """What a shape holds and none of some other ones does."""
        left = list(self.rows[number])
        for other in others:
            left = [bits & ~covered for bits, covered in zip(left, self.rows[other])]
        return left

    def rows_seen(self, number):
        return self.rows_left(number, self.later_painting(number))

    def rows_by_signs(self):
        """The dict from the signs that are somewhere the last ones painted to the rows where they are."""
        found = {}
        for number in range(len(self.shapes)):
            seen = self.rows_seen(number) if self.paints(number) else []
            if any(seen):
                sign = self.shapes[number][5]
                rows = found.get(sign, [0] * len(seen))
                found[sign] = [bits | more for bits, more in zip(rows, seen)]
        return found


def painted_on(picture, others=()):
    """A picture on the grid of all edges of it and of some others."""
    shapes = picture.all_shapes()
    all_shapes = shapes + [shape for other in others for shape in other.all_shapes()]
    return Painted(shapes, grid_around([shape_slab(shape) for shape in all_shapes]))
