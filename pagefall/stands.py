"""Stands: all that what follows in a spine can ask of what lies behind."""

from pagefall.choosers import Chooser
from pagefall.errors import BadLetter, BadStand
from pagefall.kinds import is_integer, is_list
from pagefall.selectors import check_selector
from pagefall.spines import check_spine, is_letter


def numbers_in(bits):
    """The ascending tuple of the numbers of the steps in bits."""
    return tuple([k for k in range(bits.bit_length()) if bits >> k & 1])


def bits_in(numbers):
    bits = 0
    for number in numbers:
        bits |= 1 << number
    return bits


def told_stand(held):
    """The stand that a chooser holds in bits."""
    own, parent, above, elders, rests = held
    told_parent = None if parent is None else numbers_in(parent)
    return (numbers_in(own), told_parent, numbers_in(above), numbers_in(elders), rests)


def are_numbers(thing, many):
    """Whether a thing is an ascending tuple of unlike numbers of so many steps."""
    if not is_list(thing) or not all([is_integer(number) and 0 <= number < many for number in thing]):
        return False
    return all([thing[k - 1] < thing[k] for k in range(1, len(thing))])


def is_rest(thing, place):
    """Whether a thing is the rest of some number by the place that a step asks."""
    many, rest = place
    if not is_integer(thing):
        return False
    return 1 <= thing <= rest + 1 if many == 0 else 0 <= thing < many


def held_from(chooser, thing):
    """What a chooser holds for a thing that is a stand of its selector, or None if it is none."""
    if not is_list(thing) or len(thing) != 5:
        return None
    own, parent, above, elders, rests = thing
    many = len(chooser.simples)
    if not all([are_numbers(numbers, many) for numbers in (own, above, elders)]):
        return None
    if parent is not None and not are_numbers(parent, many):
        return None
    if not is_list(rests) or len(rests) != len(chooser.places):
        return None
    if not all([is_rest(rest, place) for rest, (_, place) in zip(rests, chooser.places)]):
        return None
    held_parent = None if parent is None else bits_in(parent)
    return (bits_in(own), held_parent, bits_in(above), bits_in(elders), tuple(rests))


def stand_of(spine, selector):
    """The stand of a selector behind a spine."""
    check_spine(spine)
    check_selector(selector)
    return told_stand(Chooser(selector).helds_along(spine)[-1])


def can_follow(held, step):
    """Whether a letter with this step can stand behind what is held (None: behind nothing)."""
    if held is None:
        return step == "root"
    return step == "first" or step == "next" and held[1] is not None


def stand_behind(selector, held, letter):
    """The stand behind one letter more."""
    check_selector(selector)
    chooser = Chooser(selector)
    bits = None if held is None else held_from(chooser, held)
    if held is not None and bits is None:
        raise BadStand(held)
    if not is_letter(letter) or not can_follow(bits, letter[0]):
        raise BadLetter(letter)
    return told_stand(chooser.behind_letter(bits, letter))
