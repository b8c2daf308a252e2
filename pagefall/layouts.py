"""The page at a width."""

from pagefall.errors import BadWidth
from pagefall.kinds import is_list, is_path, is_whole, is_width
from pagefall.laidpages import boxes_of, laid_page
from pagefall.ratios import is_below, plus
from pagefall.refusals import NoBox, NoLines
from pagefall.spans import span_worth, still_span
from pagefall.watches import still_watch


def depths_at(design, width):
    """The page laid at a width."""
    if not is_width(width):
        raise BadWidth(width)
    return laid_page(design.wants_at(width), None, still_span(width), still_watch())


def told_boxes(depths):
    """The boxes of a page that is laid at one width, as they are told."""
    still = (0, 1)
    told = []
    for box, kind, x, y, width, height in boxes_of(depths):
        told.append((box, kind, span_worth(x, still), y, span_worth(width, still), height))
    return told


def layout_at(design, width):
    """The list of all boxes (id, kind, x, y, width, height) at a width, in tree order."""
    return told_boxes(depths_at(design, width))


def height_at(design, width):
    """How far down the root's box goes."""
    _, _, _, y, _, height = layout_at(design, width)[0]
    return y + height


def holder_of(plan, box):
    """The id of the box in which a told box stands, None for the root's."""
    return plan.holders.get(box[0][0] if box[1] == "text" else box[0])


def is_sticking(box, holder):
    """Whether a told box begins left of another one, or ends right of it."""
    _, _, x, _, width, _ = box
    _, _, outer_x, _, outer_width, _ = holder
    return is_below(x, outer_x) or is_below(plus(outer_x, outer_width), plus(x, width))


def sticking_out(design, width):
    """The ids of all boxes that begin left of the box in which they stand, or end right of it."""
    depths = depths_at(design, width)
    boxes = told_boxes(depths)
    by_ids = {box[0]: box for box in boxes if box[1] != "text"}
    found = []
    for box in boxes:
        holder = holder_of(depths.plan, box)
        if holder is not None and is_sticking(box, by_ids[holder]):
            found.append(box[0])
    return found


def box_with(design, width, box):
    """The told box with an id."""
    boxes = {told[0]: told for told in layout_at(design, width)}
    if not is_list(box) or len(box) != 2 or not is_path(box[0]) or not is_whole(box[1]):
        raise NoBox(box)
    asked = (tuple(box[0]), box[1])
    if asked not in boxes:
        raise NoBox(box)
    return boxes[asked]


def lines_at(design, width, path):
    """The lines of a line block, each the list of its words as they are read."""
    lines = depths_at(design, width).lines
    if not is_path(path) or (tuple(path), 0) not in lines:
        raise NoLines(path)
    return lines[(tuple(path), 0)]
