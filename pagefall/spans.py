"""Spans: forms reckoned with in one triple, (top, slope, bottom), which is (top + slope * width) / bottom.

The width is that of the page, or whatever else is unknown; bottoms are integers from 1 on.
"""

from math import gcd

from pagefall.ratios import lowest

NOUGHT = (0, 0, 1)
WIDTH = (0, 1, 1)


def span_of(number):
    return (number, 0, 1)


def still_span(fraction):
    """The span that is a fraction at all widths."""
    return (fraction[0], 0, fraction[1])


def span_sum(one, other):
    if one[2] == other[2]:
        return (one[0] + other[0], one[1] + other[1], one[2])
    top = one[0] * other[2] + other[0] * one[2]
    slope = one[1] * other[2] + other[1] * one[2]
    bottom = one[2] * other[2]
    shared = gcd(top, slope, bottom)
    return (top // shared, slope // shared, bottom // shared)


def sum_of_spans(spans):
    total = NOUGHT
    for span in spans:
        total = span_sum(total, span)
    return total


def span_less(one, other):
    return span_sum(one, (-other[0], -other[1], other[2]))


def span_share(span, share):
    """So much of a span, a fraction."""
    top, slope, bottom = span[0] * share[0], span[1] * share[0], span[2] * share[1]
    shared = gcd(top, slope, bottom)
    return (top // shared, slope // shared, bottom // shared)


def span_form(span):
    """The form that a span is, as it is told."""
    return (lowest(span[0], span[2]), lowest(span[1], span[2]))


def span_worth(span, width):
    """What a span comes to at a width."""
    return lowest(span[0] * width[1] + span[1] * width[0], span[2] * width[1])


def form_span(form):
    """The span that a form is."""
    (top, bottom), (slope, other) = form
    return (top * other, slope * bottom, bottom * other)


def span_along(form, span):
    """The span that a form in another width is, where that width is a span itself."""
    return span_sum(still_span(form[0]), span_share(span, form[1]))
