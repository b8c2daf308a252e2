"""Regions: points in slabs of runs."""

from pagefall.grids import grid_around, slab_of
from pagefall.kinds import is_integer, is_list, is_whole, is_width
from pagefall.ratios import ZERO, ascending, is_below, is_fraction, minus, plus, times, told_fraction
from pagefall.refusals import BadRectangle, BadRegion


def is_run_pair(thing):
    if not is_list(thing) or len(thing) != 2 or not all([is_fraction(end) for end in thing]):
        return False
    return is_below(thing[0], thing[1])


def are_runs(thing):
    """Whether a thing is an ascending tuple, not empty, of runs that do not touch."""
    if not is_list(thing) or len(thing) == 0 or not all([is_run_pair(run) for run in thing]):
        return False
    return all([is_below(thing[at - 1][1], thing[at][0]) for at in range(1, len(thing))])


def is_slab(thing):
    if not is_list(thing) or len(thing) != 3 or not is_integer(thing[0]) or not is_integer(thing[1]):
        return False
    return thing[0] < thing[1] and are_runs(thing[2])


def told_slab(slab):
    top, foot, runs = slab
    return (top, foot, tuple([(told_fraction(left), told_fraction(right)) for left, right in runs]))


def can_follow(slab, other):
    """Whether a told slab can stand behind another one."""
    return other[1] < slab[0] or other[1] == slab[0] and other[2] != slab[2]


def is_region(thing):
    """Whether a thing is a list of slabs."""
    if not is_list(thing) or not all([is_slab(slab) for slab in thing]):
        return False
    slabs = [told_slab(slab) for slab in thing]
    return all([can_follow(slabs[at], slabs[at - 1]) for at in range(1, len(slabs))])


def told_region(thing):
    """A region as it is told."""
    if not is_region(thing):
        raise BadRegion(thing)
    return [told_slab(slab) for slab in thing]


def is_rectangle(thing):
    if not is_list(thing) or len(thing) != 4:
        return False
    left, top, width, height = thing
    return is_fraction(left) and is_integer(top) and is_width(width) and is_whole(height)


def region_of(rectangles):
    """The region of the points that some of a list of rectangles hold."""
    if not is_list(rectangles):
        raise BadRectangle(0)
    for index, rectangle in enumerate(rectangles):
        if not is_rectangle(rectangle):
            raise BadRectangle(index)
    slabs = [slab_of(told_fraction(left), top, width, height) for left, top, width, height in rectangles]
    grid = grid_around(slabs)
    return grid.region_of(grid.rows_of(slabs))


def rows_of_both(one, other):
    """The grid of two regions, and the pairs of the bits of both in each row."""
    one = told_region(one)
    other = told_region(other)
    grid = grid_around(one + other)
    return (grid, list(zip(grid.rows_of(one), grid.rows_of(other))))


def joined_regions(one, other):
    """The region of the points of one or of the other."""
    grid, rows = rows_of_both(one, other)
    return grid.region_of([bits | more for bits, more in rows])


def common_region(one, other):
    """The region of the points of both."""
    grid, rows = rows_of_both(one, other)
    return grid.region_of([bits & more for bits, more in rows])


def left_region(one, other):
    """The region of the points of the one alone."""
    grid, rows = rows_of_both(one, other)
    return grid.region_of([bits & ~more for bits, more in rows])


def area_of(region):
    area = ZERO
    for top, foot, runs in region:
        for left, right in runs:
            area = plus(area, times((foot - top, 1), minus(right, left)))
    return area


def region_area(region):
    """The area of a region, a fraction."""
    return area_of(told_region(region))


def region_around(region):
    """The least rectangle (left, top, width, height) that holds a region, or None."""
    slabs = told_region(region)
    if not slabs:
        return None
    ends = ascending([end for _, _, runs in slabs for run in runs for end in run])
    return (ends[0], slabs[0][0], minus(ends[-1], ends[0]), slabs[-1][1] - slabs[0][0])
