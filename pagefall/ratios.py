"""Fractions, pairs of a top and a bottom from 1 on, reckoned with in lowest terms."""

from math import gcd

from pagefall.kinds import is_integer, is_list

ZERO = (0, 1)


def is_fraction(thing):
    return is_list(thing) and len(thing) == 2 and is_integer(thing[0]) and is_integer(thing[1]) and thing[1] > 0


def lowest(top, bottom):
    """The fraction of two integers, the bottom from 1 on, in lowest terms."""
    shared = gcd(top, bottom)
    return (top // shared, bottom // shared)


def told_fraction(fraction):
    return lowest(fraction[0], fraction[1])


def plus(one, other):
    return lowest(one[0] * other[1] + other[0] * one[1], one[1] * other[1])


def minus(one, other):
    return lowest(one[0] * other[1] - other[0] * one[1], one[1] * other[1])


def times(one, other):
    return lowest(one[0] * other[0], one[1] * other[1])


def through(one, other):
    """The one divided by the other, which is not 0."""
    if other[0] < 0:
        return lowest(-one[0] * other[1], -one[1] * other[0])
    return lowest(one[0] * other[1], one[1] * other[0])


def is_below(one, other):
    return one[0] * other[1] < other[0] * one[1]


def is_at_most(one, other):
    return one[0] * other[1] <= other[0] * one[1]


def greater_of(one, other):
    return other if is_below(one, other) else one


def lesser_of(one, other):
    return other if is_below(other, one) else one


def sum_of(fractions):
    total = ZERO
    for fraction in fractions:
        total = plus(total, fraction)
    return total


def place_among(ordered, fraction):
    """How many of ascending fractions are below one."""
    low, high = 0, len(ordered)
    while low < high:
        mid = (low + high) // 2
        if is_below(ordered[mid], fraction):
            low = mid + 1
        else:
            high = mid
    return low


def ascending(fractions):
    """The unlike ones of fractions in lowest terms, ascending."""
    ordered = []
    for fraction in fractions:
        at = place_among(ordered, fraction)
        if at == len(ordered) or ordered[at] != fraction:
            ordered.insert(at, fraction)
    return ordered
