"""Which rules declare a word at an element, and which of them wins."""

from pagefall.errors import BadWidth, BadWord
from pagefall.kinds import is_width
from pagefall.properties import is_own_name, is_property


def check_width(width):
    if not is_width(width):
        raise BadWidth(width)


def asked_rules(sheet, tree, path, word, width):
    """The numbers of the rules that declare a word at an element at a width, the strongest first."""
    spots = tree.spine_spots(tree.element_path(path))
    if not is_property(word) and not is_own_name(word):
        raise BadWord(word)
    check_width(width)
    spine = [spot.letter() for spot in spots]
    rules = [rule for rule in sheet.rules_on(width) if word in rule.declarations]
    return [rule.number for rule in rules if rule.chooser.helds_along(spine)[-1][0] & 1][::-1]


def winner_of(sheet, tree, path, word, width):
    """The number of the strongest rule that declares a word at an element at a width, or None."""
    numbers = asked_rules(sheet, tree, path, word, width)
    return numbers[0] if numbers else None


def winning_values(rules, many):
    """For each of so many elements the dict from words to the values that win.

    Rules are pairs of the helds behind the elements and the declarations, the weakest first.
    """
    values = [{} for _ in range(many)]
    for helds, declarations in rules:
        for at, held in enumerate(helds):
            if held[0] & 1:
                values[at].update(declarations)
    return values


def winning_along(tree, path, rules):
    """For the elements from the root down to the one at a path the dicts of what wins, by rules and their dicts."""
    spots = tree.spine_spots(path)
    spine = [spot.letter() for spot in spots]
    values = winning_values([(rule.chooser.helds_along(spine), told) for rule, told in rules], len(spots))
    return [winning for spot, winning in zip(spots, values) if spot.path == path[:len(spot.path)]]


def values_along(sheet, tree, path, width):
    """For the elements from the root down to the one at a path the dicts of the values that win."""
    return winning_along(tree, path, [(rule, rule.declarations) for rule in sheet.rules_on(width)])


def numbers_along(sheet, tree, path, width):
    """For the elements from the root down to the one at a path the dicts of the numbers of the rules that win."""
    rules = sheet.rules_on(width)
    return winning_along(tree, path, [(rule, {word: rule.number for word in rule.declarations}) for rule in rules])


def values_in(sheet, tree, width):
    """For all elements of a tree the dicts of the values that win."""
    spots = tree.all_spots()
    rules = [(rule.chooser.helds_in(spots), rule.declarations) for rule in sheet.rules_on(width)]
    return winning_values(rules, len(spots))
