"""Widths at which something can turn, and lists of stretches that look thrown."""

from fractions import Fraction

NEAR = Fraction(1, 10 ** 8)


def told(number):
    number = Fraction(number)
    return (number.numerator, number.denominator)


def turning_widths(*lists):
    """All ends of some lists of stretches, right below and above them, one between any two, and one behind all."""
    ends = {Fraction(0)}
    for stretches in lists:
        for low, _, high, _ in stretches:
            ends.add(Fraction(*low))
            if high is not None:
                ends.add(Fraction(*high))
    ends = sorted(ends)
    widths = set(ends)
    for low, high in zip(ends, ends[1:] + [ends[-1] + 20]):
        widths |= {(low + high) / 2, low + NEAR, high - NEAR}
    return [told(width) for width in sorted(widths)]


def holds(stretch, width):
    low, is_in, high, has_high = stretch
    width = Fraction(*width)
    if width < Fraction(*low) or width == Fraction(*low) and not is_in:
        return False
    return high is None or width < Fraction(*high) or width == Fraction(*high) and has_high


def some_stretch(dice, most=12):
    low = (dice.throw(most), 1 + dice.throw(3))
    if dice.throw(7) == 0:
        return (low, dice.throw(2) == 0, None, False)
    if dice.throw(4) == 0:
        return (low, True, low, True)
    high = (low[0] + 1 + dice.throw(6), low[1])
    return (low, dice.throw(2) == 0, high, dice.throw(2) == 0)


def are_canonical(stretches):
    """Whether a list is what the document calls STRETCHES, in lowest terms."""
    for low, is_in, high, has_high in stretches:
        assert isinstance(is_in, bool) and isinstance(has_high, bool)
        if low != told(Fraction(*low)) or high is not None and high != told(Fraction(*high)):
            return False
    for (_, _, high, has_high), (low, is_in, _, _) in zip(stretches, stretches[1:]):
        if high is None or Fraction(*high) > Fraction(*low) or high == low and (has_high or is_in):
            return False
    return True
