"""How high a page is at all widths, and from where on nothing more happens."""

from pagefall.ratios import ZERO
from pagefall.stretches import begin_of, joined_stretches, other_stretches
from pagefall.unrolled import unrolled_page
from pagefall.wide import page_pieces
from pagefall.wishing import Sight, are_inside


def heights_of(pieces):
    """How high the page is in each piece."""
    roots = [boxes[0] for _, boxes in pieces]
    return [root[3] + root[5] for root in roots]


def lowest_height(design):
    """The pair of the least height of the page, and the stretches of the widths where it has it."""
    pieces = page_pieces(design)
    heights = heights_of(pieces)
    least = min(heights)
    met = [stretch for (stretch, _), height in zip(pieces, heights) if height == least]
    return (least, joined_stretches(met))


def taller_though_wider(design):
    """The pair (i, j) of the first piece j that is higher than some one ahead of it, i the first of these, or None."""
    heights = heights_of(page_pieces(design))
    for later in range(len(heights)):
        lower = [at for at in range(later) if heights[at] < heights[later]]
        if lower:
            return (lower[0], later)
    return None


def level_boxes(boxes):
    """All of some boxes but their x and width."""
    return [(box, kind, y, height) for box, kind, _, y, _, height in boxes]


def settled_from(design):
    """The pair (width, is it in) from which on no box comes, goes, or has another y or height."""
    pieces = page_pieces(design)
    last = level_boxes(pieces[-1][1])
    at = len(pieces) - 1
    while at > 0 and level_boxes(pieces[at - 1][1]) == last:
        at -= 1
    return pieces[at][0][:2]


def where_within(ground):
    """The stretches of a ground at which no box sticks out."""
    sight = Sight(ground)
    pairs = sight.pairs()
    return sight.where(lambda watch: are_inside(sight, pairs, watch))


def roomy_from(design):
    """The first width from which on no box sticks out of one that it is in, and whether it is one itself, or None."""
    roomy = [stretch for ground in unrolled_page(design).grounds for stretch in where_within(ground)]
    out = other_stretches(joined_stretches(roomy))
    if not out:
        return (ZERO, True)
    return None if out[-1][2] is None else begin_of(other_stretches(out)[-1:])
