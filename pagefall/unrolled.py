"""A page at all widths: its cells between ends of conditions, and the pieces that they make."""

from pagefall.forms import worth_at
from pagefall.laidpages import boxes_of, laid_page
from pagefall.ratios import ZERO
from pagefall.spans import WIDTH, span_form, still_span
from pagefall.stretches import ALL_WIDTHS, shared_pairs
from pagefall.watches import cells_in, joined_cells


def formed_boxes(depths):
    """The boxes of a page, x and widths told as forms."""
    told = []
    for box, kind, x, y, width, height in boxes_of(depths):
        told.append((box, kind, span_form(x), y, span_form(width), height))
    return told


def worth_of_box(box, width):
    """A told box at a width, x and width as fractions."""
    number, kind, x, y, wide, height = box
    return (number, kind, worth_at(x, width), y, worth_at(wide, width), height)


def still_boxes(boxes, width):
    """Boxes with the forms of their worths at a width."""
    still = []
    for number, kind, x, y, wide, height in boxes:
        still.append((number, kind, (worth_at(x, width), ZERO), y, (worth_at(wide, width), ZERO), height))
    return still


class Ground:
    """A stretch of widths on which each box is told by one form and stands in one other box."""

    def __init__(self, stretch, boxes, plan):
        self.stretch = stretch
        self.boxes = boxes
        self.plan = plan


class Unrolled:
    """A page at all widths of an unknown: pieces, pairs of a stretch and boxes, and grounds, these parted further.

    It is made of the stretches, one behind another, on each of which one plan holds: triples (stretch, plan, cells).
    """

    def __init__(self, parts):
        self.pieces = joined_cells([cell for _, _, cells in parts for cell in cells], still_boxes)
        self.grounds = []
        stretches = [stretch for stretch, _ in self.pieces]
        for stretch, at, part in shared_pairs(stretches, [stretch for stretch, _, _ in parts]):
            self.grounds.append(Ground(stretch, self.pieces[at][1], parts[part][1]))


def unrolled_part(stretch, wants, about, room):
    """The part of an unrolled page on a stretch, the page's width being a span."""
    cells = cells_in(stretch, lambda watch: formed_boxes(laid_page(wants, about, room, watch)))
    return (stretch, wants.plan, cells)


def unrolled_page(design):
    """A design at all page widths."""
    return Unrolled([unrolled_part(stretch, design.wants_at(stretch[0]), None, WIDTH) for stretch in design.grounds()])


def unrolled_about(wants, width, path, word):
    """A page at one width, at all lengths that a worth of an element could be."""
    return Unrolled([unrolled_part(ALL_WIDTHS, wants, (tuple(path), word), still_span(width))])
