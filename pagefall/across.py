"""Blocks across: margins, pads and width in a room, and in all rooms."""

from pagefall.forms import worth_at, zero_of
from pagefall.kinds import is_list
from pagefall.pieces import check_room, parted_at
from pagefall.properties import is_marked, table_lets
from pagefall.ratios import ZERO, is_below, is_fraction, told_fraction
from pagefall.refusals import BadAcross
from pagefall.spans import NOUGHT, WIDTH, span_form, span_less, span_of, span_share, span_sum, span_worth, still_span
from pagefall.spans import sum_of_spans
from pagefall.stretches import ALL_WIDTHS
from pagefall.watches import cells_in, joined_cells, still_watch

WORDS = ("width", "least", "most", "mleft", "mright", "pleft", "pright")
HALF = (1, 2)


def is_told_across(thing):
    if not is_list(thing) or len(thing) != len(WORDS):
        return False
    return all([table_lets(word, value) for word, value in zip(WORDS, thing)])


def check_across(thing):
    if not is_told_across(thing):
        raise BadAcross(thing)


def length_span(length, room):
    """The span of a length in a room, None for one that is not told."""
    if length == "auto" or length == "none":
        return None
    return span_share(room, (length[1], 100)) if is_marked(length, "part") else span_of(length)


def told_spans(told, room):
    """The spans, in a room, of what is told across."""
    return [length_span(length, room) for length in told]


def span_or_nought(span):
    return NOUGHT if span is None else span


def taken_by(spans):
    """What margins and pads take, auto ones nothing."""
    return sum_of_spans([span for span in spans[3:] if span is not None])


def held_span(width, spans, watch):
    """A width that is held: lowered to the most, then raised to the least."""
    _, least, most = spans[:3]
    if most is not None:
        width = watch.lesser_of(width, most)
    return watch.greater_of(width, least)


def left_margin(spans, over, watch):
    """The left margin by what the width leaves of the rest."""
    _, _, _, mleft, mright, _, _ = spans
    if mleft is not None:
        return mleft
    if watch.is_upto(over, NOUGHT):
        return NOUGHT
    return span_share(over, HALF) if mright is None else over


def width_across(spans, room, watch):
    """The width of a block, its rest where it is auto, held."""
    width = span_less(room, taken_by(spans)) if spans[0] is None else spans[0]
    return held_span(width, spans, watch)


def spans_around(spans, width, room, watch):
    """The five spans of left margin, left pad, width, right pad and right margin of a block of a width."""
    left = left_margin(spans, span_less(room, span_sum(taken_by(spans), width)), watch)
    _, _, _, _, _, pleft, pright = spans
    right = span_less(room, sum_of_spans([left, pleft, width, pright]))
    return (left, pleft, width, pright, right)


def around_in(told, room, watch):
    """The five spans that tell what stands across in a room."""
    spans = told_spans(told, room)
    return spans_around(spans, width_across(spans, room, watch), room, watch)


def across_of(told, room):
    """The tuple of left margin, left pad, width, right pad and right margin in a room."""
    check_across(told)
    check_room(room)
    return tuple([span_worth(span, room) for span in around_in(told, still_span(room), still_watch())])


def is_across(told, room, thing):
    """Whether any object is the tuple that across_of tells."""
    across = across_of(told, room)
    if not is_list(thing) or len(thing) != len(across) or not all([is_fraction(part) for part in thing]):
        return False
    return tuple([told_fraction(part) for part in thing]) == across


def still_forms(forms, room):
    return tuple([(worth_at(form, room), ZERO) for form in forms])


def stretches_across(told):
    """The pairs of a stretch of rooms and the five forms there, each stretch as long as can be."""
    cells = cells_in(ALL_WIDTHS, lambda watch: tuple([span_form(span) for span in around_in(told, WIDTH, watch)]))
    return joined_cells(cells, still_forms)


def pieces_across(told):
    """The pieces of the forms in all rooms."""
    return [(low, high, forms) for (low, _, high, _), forms in stretches_across(told)]


def in_rooms(told):
    """The pairs of a stretch of rooms and the five forms that tell there what stands across."""
    check_across(told)
    return stretches_across(told)


def fits_from(told):
    """The least room from which on the block never sticks out, or None."""
    check_across(told)
    for low, high, forms in pieces_across(told)[::-1]:
        margin = forms[4]
        if high is None and is_below(margin[1], ZERO):
            return None
        if is_below(worth_at(margin, low), ZERO):
            return zero_of(margin)
    return ZERO


def parted_from(told, other):
    """The greatest room up to which both tell the same, None if they do in all rooms."""
    check_across(told)
    check_across(other)
    return parted_at(pieces_across(told), pieces_across(other))
