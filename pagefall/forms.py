"""Forms: what is told of widths as a + b * width."""

from pagefall.errors import BadWidth
from pagefall.kinds import is_list, is_width
from pagefall.ratios import ZERO, is_below, is_fraction, lesser_of, minus, plus, through, times, told_fraction
from pagefall.refusals import BadForm, BadForms, BadFraction


def is_form(thing):
    return is_list(thing) and len(thing) == 2 and is_fraction(thing[0]) and is_fraction(thing[1])


def told_form(form):
    return (told_fraction(form[0]), told_fraction(form[1]))


def check_form(thing):
    if not is_form(thing):
        raise BadForm(thing)


def form_worth(form, width):
    """What a form comes to at a width."""
    check_form(form)
    if not is_width(width):
        raise BadWidth(width)
    return worth_at(form, width)


def worth_at(form, width):
    return plus(form[0], times(form[1], width))


def form_sum(one, other):
    """The form whose worth is the sum of both."""
    check_form(one)
    check_form(other)
    return (plus(one[0], other[0]), plus(one[1], other[1]))


def form_times(form, share):
    """The form whose worth is that of another one, times a fraction."""
    check_form(form)
    if not is_fraction(share):
        raise BadFraction(share)
    return (times(form[0], share), times(form[1], share))


def form_less(one, other):
    """The form whose worth is that of the one less that of the other."""
    return (minus(one[0], other[0]), minus(one[1], other[1]))


def zero_of(form):
    """The width, perhaps below 0, at which a form comes to 0, or None if there is no or no single one."""
    return None if form[1][0] == 0 else through(minus(ZERO, form[0]), form[1])


def told_forms(forms):
    """The forms of a list, in lowest terms, if it is right."""
    if not is_list(forms) or len(forms) == 0:
        raise BadForms(0)
    for index, form in enumerate(forms):
        if not is_form(form):
            raise BadForms(index)
    return [told_form(form) for form in forms]


def highest_behind(forms, width):
    """The form that is the greatest right behind a width."""
    best = forms[0]
    for form in forms:
        one, other = worth_at(best, width), worth_at(form, width)
        if is_below(one, other) or one == other and is_below(best[1], form[1]):
            best = form
    return best


def first_crossing(form, forms):
    """The least width behind which some form is above this one, which is the greatest up to there, or None."""
    first = None
    for other in forms:
        if is_below(form[1], other[1]):
            crossing = zero_of(form_less(other, form))
            first = crossing if first is None else lesser_of(first, crossing)
    return first


def greatest_form(forms):
    """The pairs of a stretch and a form that is at no width of it below another one."""
    told = told_forms(forms)
    pieces = []
    low = ZERO
    while low is not None:
        form = highest_behind(told, low)
        high = first_crossing(form, told)
        pieces.append(((low, low == ZERO, high, high is not None), form))
        low = high
    return pieces


def turned_form(form):
    return (minus(ZERO, form[0]), minus(ZERO, form[1]))


def least_form(forms):
    """The pairs of a stretch and a form that is at no width of it above another one."""
    turned = greatest_form([turned_form(form) for form in told_forms(forms)])
    return [(stretch, turned_form(form)) for stretch, form in turned]
