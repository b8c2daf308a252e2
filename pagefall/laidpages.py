"""All boxes of a page with their places, in tree order."""

from pagefall.breadths import Breadths
from pagefall.depths import Depths
from pagefall.spans import NOUGHT, span_of, span_sum


def corner_within(breadths, depths, corners, box):
    """Where what is within the pads of a box begins."""
    x, y = corners[box]
    upper, _ = (0, 0) if box[1] > 0 else depths.pads_above_below(box[0])
    return (span_sum(x, breadths.pads[box]), y + upper)


def laid_page(wants, about, room, watch):
    """The depths of a page whose room is a span."""
    return Depths(Breadths(wants, about, room, watch))


def boxes_of(depths):
    """The tuples (id, kind, x, y, width, height), x and width spans, of all boxes, in tree order."""
    breadths, plan = depths.breadths, depths.plan
    corners = {}
    boxes = []
    for box, path in plan.order:
        if box is None and path not in depths.pieces:
            # A text of blanks can come ahead of the box in whose run it is.
            continue
        holder = plan.holders.get(path if box is None else box)
        x, y = (NOUGHT, 0) if holder is None else corner_within(breadths, depths, corners, holder)
        if box is not None:
            corners[box] = (span_sum(x, breadths.lefts[box]), y + depths.tops[box])
            boxes.append((box, plan.kind_of(box)) + corners[box] + (breadths.wides[box], depths.heights[box]))
            continue
        for number, piece in enumerate(depths.pieces[path]):
            left = span_sum(x, piece.left)
            boxes.append(((path, number), "text", left, y + piece.top, span_of(piece.width), piece.height))
    return boxes
