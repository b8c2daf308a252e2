"""Two pages: where they are alike at all widths, and which boxes are not."""

from pagefall.spans import form_span
from pagefall.stretches import begin_of, joined_stretches, other_stretches, shared_pairs, stretches_where
from pagefall.wide import page_pieces


def are_level(box, other):
    """Whether two boxes are alike but for their x and width."""
    return (box[0], box[1], box[3], box[5]) == (other[0], other[1], other[3], other[5])


def unlike_forms(box, other):
    """The pairs of spans of the x and the widths of two boxes, where they are unlike forms."""
    return [(form_span(box[at]), form_span(other[at])) for at in (2, 4) if box[at] != other[at]]


def are_equal(watch, pairs):
    """Whether the spans of each pair have the same worth."""
    for one, other in pairs:
        if not watch.is_upto(one, other) or not watch.is_upto(other, one):
            return False
    return True


def where_alike(stretch, boxes, others):
    """The stretches, in one, of the widths at which two lists of boxes are equal."""
    if len(boxes) != len(others) or not all([are_level(box, other) for box, other in zip(boxes, others)]):
        return []
    pairs = [pair for box, other in zip(boxes, others) for pair in unlike_forms(box, other)]
    return stretches_where(stretch, lambda watch: are_equal(watch, pairs))


def shared_pieces(one, other):
    """The triples (stretch, boxes, boxes) of all stretches on which two pages have one list of boxes each."""
    pieces, others = page_pieces(one), page_pieces(other)
    pairs = shared_pairs([stretch for stretch, _ in pieces], [stretch for stretch, _ in others])
    return [(stretch, pieces[at][1], others[there][1]) for stretch, at, there in pairs]


def alike_widths(one, other):
    """The stretches of the widths at which both layouts are equal."""
    alike = []
    for stretch, boxes, others in shared_pieces(one, other):
        alike.extend(where_alike(stretch, boxes, others))
    return joined_stretches(alike)


def first_unlike(one, other):
    """The first width at which both layouts are unlike, and whether they are at it itself, or None."""
    return begin_of(other_stretches(alike_widths(one, other)))


def unlike_begin(stretch, box, other):
    """Where on a stretch two boxes (None: none) are unlike first, as first_width tells it, or None."""
    if box is None or other is None:
        return stretch[:2]
    alike = where_alike(stretch, [box], [other])
    if alike == [stretch]:
        return None
    if not alike or alike[0][:2] != stretch[:2]:
        return stretch[:2]
    # Unlike forms are the same at one width alone.
    return (alike[0][2], not alike[0][3])


def unlike_boxes(one, other):
    """The ascending dict from the ids of all boxes that are unlike somewhere to where they are first."""
    firsts = {}
    for stretch, boxes, others in shared_pieces(one, other):
        by_ids = {box[0]: box for box in boxes}
        by_others = {box[0]: box for box in others}
        for number in [box[0] for box in boxes] + [box[0] for box in others if box[0] not in by_ids]:
            begin = unlike_begin(stretch, by_ids.get(number), by_others.get(number))
            if begin is not None and number not in firsts:
                firsts[number] = begin
    return {number: firsts[number] for number in sorted(firsts)}
