"""Blocks across: margins, pads and width in a room, and in all rooms."""

from pagefall.forms import form_less, form_times, worth_at, zero_of
from pagefall.kinds import is_list
from pagefall.pieces import check_room, joined_pieces, parted_at
from pagefall.properties import is_marked, table_lets
from pagefall.ratios import ONE, ZERO, ascending, is_below, is_fraction, lowest, plus, times, told_fraction
from pagefall.refusals import BadAcross

WORDS = ("width", "least", "most", "mleft", "mright", "pleft", "pright")
HALF = (1, 2)
NOTHING = ((0, 1), (0, 1))
WHOLE = ((0, 1), (1, 1))


def is_told_across(thing):
    if not is_list(thing) or len(thing) != len(WORDS):
        return False
    return all([table_lets(word, value) for word, value in zip(WORDS, thing)])


def check_across(thing):
    if not is_told_across(thing):
        raise BadAcross(thing)


def length_form(length):
    """The form, in the room, of a length, an auto one counting for 0."""
    if length == "auto":
        return NOTHING
    return (ZERO, lowest(length[1], 100)) if is_marked(length, "part") else ((length, 1), ZERO)


def rest_form(told):
    """The form of what margins and pads leave of the room."""
    rest = WHOLE
    for length in told[3:]:
        rest = form_less(rest, length_form(length))
    return rest


def bound_form(number):
    return ((number, 1), ZERO)


def first_width(told):
    """The form of the width ahead of being held."""
    return rest_form(told) if told[0] == "auto" else length_form(told[0])


def held_form(form, told, room):
    """The form of a width that is held, in a room."""
    _, least, most = told[:3]
    if most != "none" and is_below((most, 1), worth_at(form, room)):
        form = bound_form(most)
    return bound_form(least) if is_below(worth_at(form, room), (least, 1)) else form


def left_form(told, over, room):
    """The form of the left margin by that of what the width leaves of the rest, in a room."""
    _, _, _, mleft, mright, _, _ = told
    if mleft != "auto" or not is_below(ZERO, worth_at(over, room)):
        return length_form(mleft)
    return form_times(over, HALF) if mright == "auto" else over


def forms_around(told, room):
    """The five forms that tell, in a room, what stands across."""
    width = held_form(first_width(told), told, room)
    left = left_form(told, form_less(rest_form(told), width), room)
    pads = [length_form(length) for length in told[5:]]
    right = WHOLE
    for form in (left, pads[0], width, pads[1]):
        right = form_less(right, form)
    return (left, pads[0], width, pads[1], right)


def across_of(told, room):
    """The tuple of left margin, left pad, width, right pad and right margin in a room."""
    check_across(told)
    check_room(room)
    return tuple([worth_at(form, room) for form in forms_around(told, room)])


def is_across(told, room, thing):
    """Whether any object is the tuple that across_of tells."""
    across = across_of(told, room)
    if not is_list(thing) or len(thing) != len(across) or not all([is_fraction(part) for part in thing]):
        return False
    return tuple([told_fraction(part) for part in thing]) == across


def turning_rooms(told):
    """Ascending rooms above 0 between which the forms do not change."""
    width = first_width(told)
    bounds = [bound_form(number) for number in told[1:3] if number != "none"]
    rest = rest_form(told)
    rooms = [zero_of(form_less(width, bound)) for bound in bounds]
    rooms.extend([zero_of(form_less(rest, form)) for form in bounds + [width]])
    return ascending([room for room in rooms if room is not None and is_below(ZERO, room)])


def pieces_across(told):
    """The pieces of the forms in all rooms."""
    pieces = []
    low = ZERO
    for high in turning_rooms(told) + [None]:
        between = plus(low, ONE) if high is None else times(plus(low, high), HALF)
        pieces.append((low, high, forms_around(told, between)))
        low = high
    return joined_pieces(pieces)


def in_rooms(told):
    """The pairs of a stretch of rooms and the five forms that tell there what stands across."""
    check_across(told)
    return [((low, low == ZERO, high, high is not None), forms) for low, high, forms in pieces_across(told)]


def fits_from(told):
    """The least room from which on the block never sticks out, or None."""
    check_across(told)
    for low, high, forms in pieces_across(told)[::-1]:
        margin = forms[4]
        if high is None and is_below(margin[1], ZERO):
            return None
        if is_below(worth_at(margin, low), ZERO):
            return zero_of(margin)
    return ZERO


def parted_from(told, other):
    """The greatest room up to which both tell the same, None if they do in all rooms."""
    check_across(told)
    check_across(other)
    return parted_at(pieces_across(told), pieces_across(other))
