"""Blocks one below another: where they begin, and the least and the greatest sums of the gaps."""

from pagefall.kinds import is_list, is_whole
from pagefall.refusals import BadMargins, BadRows


def is_stack_row(thing):
    return is_list(thing) and len(thing) == 3 and all([is_whole(number) for number in thing])


def stack_of(rows):
    """The pair of where blocks (upper margin, height, lower margin) begin, and the whole height."""
    if not is_list(rows):
        raise BadRows(0)
    for index, row in enumerate(rows):
        if not is_stack_row(row):
            raise BadRows(index)
    begins = []
    foot = 0
    margin = 0
    for upper, height, lower in rows:
        begins.append(foot + max(margin, upper))
        foot = begins[-1] + height
        margin = lower
    return (begins, foot + margin)


def check_margins(margins):
    if not is_list(margins):
        raise BadMargins(0)
    for index, margin in enumerate(margins):
        if not is_whole(margin):
            raise BadMargins(index)


def least_stack(margins):
    """The least sum of all gaps over all orders."""
    check_margins(margins)
    return sum(margins) + max(margins, default=0)


def greatest_stack(margins):
    """The greatest sum of all gaps over all orders."""
    check_margins(margins)
    falling = sorted(margins, reverse=True)
    # There is one gap more than blocks, and each margin is the greater one in two of them at most.
    return sum([falling[at // 2] for at in range(len(falling) + 1)]) if falling else 0


def is_least_order(margins):
    """Whether this order has the least sum."""
    check_margins(margins)
    has_fallen = False
    for at in range(1, len(margins)):
        if margins[at] > margins[at - 1] and has_fallen:
            return False
        has_fallen = has_fallen or margins[at] < margins[at - 1]
    return True


def greatest_order(margins):
    """Indexes in an order that has the greatest sum."""
    check_margins(margins)
    falling = sorted(range(len(margins)), key=lambda index: margins[index])[::-1]
    half = (len(falling) + 1) // 2
    order = []
    # Each great one has lesser ones beside it; of an even number the next one stands at the end, with the last gap.
    for at in range(half):
        order.append(falling[at])
        if half + at < len(falling):
            order.append(falling[len(falling) - 1 - at])
    return order
