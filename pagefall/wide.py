"""Pages at all widths, and with any one length."""

from pagefall.abouts import about_wants
from pagefall.unrolled import unrolled_about, unrolled_page, worth_of_box


def page_pieces(design):
    """The pairs of a stretch of widths and the boxes there, x and widths told as forms."""
    return unrolled_page(design).pieces


def tree_place(box):
    """What tells, compared, where a told box is in tree order."""
    path, number = box[0]
    place = [2 * child + 1 for child in path]
    # A nameless box comes right ahead of the child whose number is one less than its own; pieces of a text by numbers.
    return place + [2 * number - 2] if number > 0 else place


def turned_boxes(one, other):
    """The ids of the boxes, in tree order, that are in one of two lists alone, or unlike in both."""
    ones = {box[0]: box for box in one}
    others = {box[0]: box for box in other}
    turned = [box for box in one if box[0] not in others or others[box[0]] != box]
    turned.extend([box for box in other if box[0] not in ones])
    return [box[0] for box in sorted(turned, key=tree_place)]


def neighbour_turns(piece, other):
    """The ids of the boxes that turn from one piece to the next one."""
    for low, _, high, _ in (piece[0], other[0]):
        if low == high:
            one = [worth_of_box(box, low) for box in piece[1]]
            return turned_boxes(one, [worth_of_box(box, low) for box in other[1]])
    return turned_boxes(piece[1], other[1])


def page_turns(design):
    """For all pieces but the first the ids of the boxes that turn there."""
    pieces = page_pieces(design)
    return [neighbour_turns(pieces[at - 1], pieces[at]) for at in range(1, len(pieces))]


def pieces_about(design, width, path, name):
    """The pieces of the page at a width, in one length of an element."""
    wants = about_wants(design, width, path, name)
    return unrolled_about(wants, width, path, name).pieces
