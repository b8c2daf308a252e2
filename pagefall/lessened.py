"""What may be left out of a selector."""

from pagefall.alltrees import spine_apart
from pagefall.errors import NoPart
from pagefall.kinds import is_integer, is_list
from pagefall.nests import check_nest
from pagefall.selectors import check_selector, told_selector


def simple_parts(number, simple):
    """The parts of one step, but for the step itself."""
    name, has, lacks, place = simple
    parts = [(number, "has", klass) for klass in has] + [(number, "lacks", klass) for klass in lacks]
    if name is not None:
        parts.insert(0, (number, "name", name))
    if place is not None:
        parts.append((number, "place", place))
    return parts


def parts_of(selector):
    """All parts of a selector, step by step."""
    check_selector(selector)
    parts = []
    for number, (_, simple) in enumerate(told_selector(selector)):
        parts.extend(simple_parts(number, simple))
    last = len(selector) - 1
    if last > 0:
        parts.append((last, "step", selector[last][0]))
    return parts


def told_part(thing):
    """A thing as parts are told, or None if it cannot be one."""
    if not is_list(thing) or len(thing) != 3 or not is_integer(thing[0]) or not isinstance(thing[1], str):
        return None
    number, what, worth = thing
    if what == "place":
        is_right = is_list(worth) and len(worth) == 2 and is_integer(worth[0]) and is_integer(worth[1])
        return (number, what, tuple(worth)) if is_right else None
    return (number, what, worth) if isinstance(worth, str) else None


def without_part(selector, part):
    """The selector that does not ask one of its parts."""
    parts = parts_of(selector)
    told = told_part(part)
    if told is None or told not in parts:
        raise NoPart(part)
    return left_selector(selector, told)


def left_selector(selector, part):
    steps = told_selector(selector)
    number, what, worth = part
    if what == "step":
        return steps[:-1]
    relation, (name, has, lacks, place) = steps[number]
    if what == "name":
        name = None
    elif what == "has":
        has.remove(worth)
    elif what == "lacks":
        lacks.remove(worth)
    else:
        place = None
    steps[number] = (relation, (name, has, lacks, place))
    return steps


def is_idle(selector, part, nest):
    """Whether a selector matches the same elements without a part."""
    return spine_apart(selector, left_selector(selector, part), nest) is None


def idle_parts(selector, nest=None):
    """The parts of which each alone may be left out."""
    parts = parts_of(selector)
    check_nest(nest)
    return [part for part in parts if is_idle(selector, part, nest)]


def lessened_selector(selector, nest=None):
    """The selector that is left if again and again the first idle part is left out."""
    check_selector(selector)
    check_nest(nest)
    left = told_selector(selector)
    at = 0
    # What is left matches the same, so a part that was not idle never becomes so: those ahead need no other look.
    while at < len(parts_of(left)):
        part = parts_of(left)[at]
        if is_idle(left, part, nest):
            left = left_selector(left, part)
        else:
            at += 1
    return left
