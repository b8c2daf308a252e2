"""Stretches of widths: gathered, in both, left, and where forms compare."""

from pagefall.errors import BadWidth
from pagefall.forms import check_form
from pagefall.kinds import is_list, is_width
from pagefall.ratios import ZERO, is_at_most, is_below, told_fraction
from pagefall.refusals import BadStretch, BadStretches
from pagefall.spans import form_span
from pagefall.watches import Watch, cells_in

ALL_WIDTHS = (ZERO, True, None, False)


def is_stretch(thing):
    """Whether a thing is a tuple (low, is in, high or None, is in) of some widths."""
    if not is_list(thing) or len(thing) != 4:
        return False
    low, is_in, high, has_high = thing
    if not is_width(low) or not isinstance(is_in, bool) or not isinstance(has_high, bool):
        return False
    if high is None:
        return not has_high
    return is_width(high) and (is_below(low, high) or is_at_most(low, high) and is_in and has_high)


def are_apart(one, other):
    """Whether a width stands between a stretch and another one that begins no earlier."""
    if one[2] is None:
        return False
    return is_below(one[2], other[0]) or is_at_most(one[2], other[0]) and not one[3] and not other[1]


def are_stretches(thing):
    """Whether a thing is a list of stretches that are apart."""
    if not is_list(thing) or not all([is_stretch(stretch) for stretch in thing]):
        return False
    return all([are_apart(thing[at - 1], thing[at]) for at in range(1, len(thing))])


def told_stretch(stretch):
    low, is_in, high, has_high = stretch
    return (told_fraction(low), is_in, None if high is None else told_fraction(high), has_high)


def begins_ahead(one, other):
    """Whether a stretch begins ahead of another one."""
    return is_below(one[0], other[0]) or one[0] == other[0] and one[1] and not other[1]


def ends_ahead(one, other):
    """Whether a stretch ends ahead of another one."""
    if one[2] is None or other[2] is None:
        return one[2] is not None
    return is_below(one[2], other[2]) or one[2] == other[2] and not one[3] and other[3]


def by_begins(stretches):
    """The stretches by where they begin."""
    ordered = []
    for stretch in stretches:
        at = len(ordered)
        while at > 0 and begins_ahead(stretch, ordered[at - 1]):
            at -= 1
        ordered.insert(at, stretch)
    return ordered


def joined_stretches(stretches):
    """The stretches that are apart, of the widths in some of right ones, fractions in lowest terms."""
    joined = []
    for stretch in by_begins(stretches):
        if joined and not are_apart(joined[-1], stretch):
            if ends_ahead(joined[-1], stretch):
                joined[-1] = joined[-1][:2] + stretch[2:]
        else:
            joined.append(stretch)
    return joined


def gathered_stretches(some):
    """The stretches of the widths that are in one of a list at least."""
    if not is_list(some):
        raise BadStretch(0)
    for index, stretch in enumerate(some):
        if not is_stretch(stretch):
            raise BadStretch(index)
    return joined_stretches([told_stretch(stretch) for stretch in some])


def told_stretches(thing):
    """The stretches of a list, if they are apart, in lowest terms."""
    if not are_stretches(thing):
        raise BadStretches(thing)
    return [told_stretch(stretch) for stretch in thing]


def shared_stretch(one, other):
    """The stretch of the widths that are in both, or None."""
    low = other[:2] if begins_ahead(one, other) else one[:2]
    high = one[2:] if ends_ahead(one, other) else other[2:]
    stretch = low + high
    return stretch if is_stretch(stretch) else None


def shared_pairs(one, other):
    """The triples (stretch, index, index) of all stretches that are in one of each of two ascending lists."""
    shared = []
    at, there = 0, 0
    while at < len(one) and there < len(other):
        stretch = shared_stretch(one[at], other[there])
        if stretch is not None:
            shared.append((stretch, at, there))
        if ends_ahead(one[at], other[there]):
            at += 1
        else:
            there += 1
    return shared


def common_stretches(one, other):
    return [stretch for stretch, _, _ in shared_pairs(one, other)]


def both_stretches(one, other):
    """The stretches of the widths that are in both."""
    one = told_stretches(one)
    return common_stretches(one, told_stretches(other))


def other_stretches(some):
    """The stretches of the widths that are in none of some that are apart."""
    left = []
    low, is_in = ZERO, True
    for stretch in some:
        between = (low, is_in, stretch[0], not stretch[1])
        if is_stretch(between):
            left.append(between)
        if stretch[2] is None:
            return left
        low, is_in = stretch[2], not stretch[3]
    return left + [(low, is_in, None, False)]


def rest_of(one):
    """The stretches of the widths that are in none."""
    return other_stretches(told_stretches(one))


def holds_width(stretch, width):
    low, is_in, high, has_high = stretch
    if is_below(width, low) or is_at_most(width, low) and not is_in:
        return False
    return high is None or is_below(width, high) or has_high and is_at_most(width, high)


def is_width_in(some, width):
    """Whether a width is in one of the stretches."""
    told = told_stretches(some)
    if not is_width(width):
        raise BadWidth(width)
    return any([holds_width(stretch, width) for stretch in told])


def begin_of(stretches):
    """The first width in stretches, and whether it is one of them, or None."""
    return stretches[0][:2] if stretches else None


def first_width(some):
    """The least width in the stretches and True, one behind which they begin and False, or None."""
    return begin_of(told_stretches(some))


def stretches_where(stretch, work):
    """The stretches of the widths in one at which a function of a watch tells what is true."""
    return joined_stretches([cell for cell, told in cells_in(stretch, work) if told])


def where_upto(one, other):
    """The stretches of the widths at which the one's worth is at most the other's."""
    check_form(one)
    check_form(other)
    left, right = form_span(one), form_span(other)
    return stretches_where(ALL_WIDTHS, lambda watch: watch.is_upto(left, right))


def where_below(one, other):
    """The stretches of the widths at which the one's worth is below the other's."""
    check_form(one)
    check_form(other)
    left, right = form_span(one), form_span(other)
    return stretches_where(ALL_WIDTHS, lambda watch: watch.is_under(left, right))
