"""Wishes: at which widths they are met."""

from pagefall.abouts import about_wants
from pagefall.layouts import depths_at
from pagefall.ratios import told_fraction
from pagefall.refusals import BadWish
from pagefall.stretches import begin_of, common_stretches, holds_width, joined_stretches, other_stretches
from pagefall.unrolled import Ground, formed_boxes, unrolled_about, unrolled_page
from pagefall.wishing import Sight, is_wish_itself, where_single, wishes_in


def is_wish(thing):
    """Whether a thing is a wish."""
    # Things that are refused may be nested deeper than calls can be.
    waiting = [thing]
    while waiting:
        wish = waiting.pop()
        if not is_wish_itself(wish):
            return False
        waiting.extend(wishes_in(wish))
    return True


def check_wish(thing):
    if not is_wish(thing):
        raise BadWish(thing)


def where_all(rows):
    """The stretches of the widths that are in all of some lists."""
    met = other_stretches([])
    for stretches in rows:
        met = common_stretches(met, stretches)
    return met


def where_met(sights, wish):
    """The stretches of the widths at which a wish is met, by sights at all of them."""
    if wish[0] == "not":
        return other_stretches(where_met(sights, wish[1]))
    if wish[0] == "all":
        return where_all([where_met(sights, part) for part in wish[1]])
    if wish[0] == "any":
        return other_stretches(where_all([other_stretches(where_met(sights, part)) for part in wish[1]]))
    return joined_stretches([stretch for sight in sights for stretch in where_single(sight, wish)])


def where_on(grounds, wish):
    return where_met([Sight(ground) for ground in grounds], wish)


def meets_wish(design, wish, width):
    """Whether a wish is met at a width."""
    check_wish(wish)
    depths = depths_at(design, width)
    width = told_fraction(width)
    ground = Ground((width, True, width, True), formed_boxes(depths), depths.plan)
    return any([holds_width(stretch, width) for stretch in where_on([ground], wish)])


def widths_where(design, wish):
    """The stretches of all widths at which a wish is met."""
    check_wish(wish)
    return where_on(unrolled_page(design).grounds, wish)


def first_where(design, wish):
    """The first width at which a wish is met, and whether it is met there itself, or None."""
    return begin_of(widths_where(design, wish))


def where_about(design, width, path, name, wish):
    """The stretches of the lengths at which a wish is met, with such a length of an element, at a page width."""
    asked = about_wants(design, width, path, name)
    check_wish(wish)
    return where_on(unrolled_about(asked, width, path, name).grounds, wish)
