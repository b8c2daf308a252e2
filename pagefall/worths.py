"""Worths of properties and of own names."""

from pagefall.errors import BadWord
from pagefall.properties import HANDED_DOWN, PROPERTIES, first_worth, is_marked, is_own_name, is_property, is_use
from pagefall.properties import table_lets
from pagefall.winners import check_width, values_along, values_in


def own_sayings(values):
    """The values that win for own names."""
    return {word: values[word] for word in values if is_own_name(word)}


def used_name(sayings, word):
    """The own name that the saying of one uses, or None."""
    return sayings[word][1] if word in sayings and is_use(sayings[word]) else None


def rings_in(sayings):
    """The names from which one comes back to them by uses, as keys of a dict."""
    ringed = {}
    met = {}
    for start in sayings:
        trail = []
        at = start
        while at is not None and at not in met:
            met[at] = start
            trail.append(at)
            at = used_name(sayings, at)
        # What was met from another start leads to no ring that is new.
        if at is not None and met[at] == start:
            for word in trail[trail.index(at):]:
                ringed[word] = True
    return ringed


def settled_order(sayings, ringed):
    """The names with a saying, each behind the one whose worth it may take."""
    order = []
    known = set()
    for start in sayings:
        trail = []
        at = start
        while at in sayings and at not in known:
            known.add(at)
            trail.append(at)
            at = None if at in ringed else used_name(sayings, at)
        order.extend(trail[::-1])
    return order


def own_worths(sayings, above):
    """The worths of own names by their sayings at an element and the parent's; names without a worth are no keys."""
    ringed = rings_in(sayings)
    worths = {word: above[word] for word in above if word not in sayings}
    for word in settled_order(sayings, ringed):
        saying = sayings[word]
        if not is_use(saying):
            worths[word] = saying
        elif word not in ringed and saying[1] in worths:
            worths[word] = worths[saying[1]]
        elif len(saying) == 3:
            worths[word] = saying[2]
    return worths


def owns_along(values):
    """For elements from the root down the worths of own names."""
    owns = []
    above = {}
    for winning in values:
        above = own_worths(own_sayings(winning), above)
        owns.append(above)
    return owns


def taken_value(word, values, owns):
    """What a property is told at an element, behind uses, or None for nothing."""
    value = values.get(word)
    if value is None or not is_use(value):
        return value
    worth = owns.get(value[1])
    if table_lets(word, worth):
        return worth
    return value[2] if len(value) == 3 else None


def property_worth(word, values, owns, above):
    """The worth of a property by what wins here, the own names here, and the parent's worth (None at the root)."""
    value = taken_value(word, values, owns)
    first = first_worth(word, above is None)
    if value == "start" or value is None and word not in HANDED_DOWN:
        return first
    if value == "as-parent" or value is None:
        return first if above is None else above
    if is_marked(value, "times"):
        return max(1, value[1] * (first if above is None else above) // 100)
    return value


def own_worth(sheet, tree, path, word, width):
    """The worth of an own name at an element at a width, or None."""
    path = tree.element_path(path)
    if not is_own_name(word):
        raise BadWord(word)
    check_width(width)
    return owns_along(values_along(sheet, tree, path, width))[-1].get(word)


def ringed_names(sheet, tree, path, width):
    """The ascending list of the own names that are ringed at an element at a width."""
    path = tree.element_path(path)
    check_width(width)
    return sorted(rings_in(own_sayings(values_along(sheet, tree, path, width)[-1])))


def worth_of(sheet, tree, path, word, width):
    """The worth of a property at an element at a width."""
    path = tree.element_path(path)
    if not is_property(word):
        raise BadWord(word)
    check_width(width)
    values = values_along(sheet, tree, path, width)
    above = None
    for winning, owns in zip(values, owns_along(values)):
        above = property_worth(word, winning, owns, above)
    return above


def worths_behind(winning, owns, above):
    """The dict of the worths of all properties by what wins, the own names here and the parent's dict, or None."""
    worths = {}
    for word in PROPERTIES:
        worths[word] = property_worth(word, winning, owns, None if above is None else above[word])
    return worths


def worths_along(sheet, tree, path, width):
    """For the elements from the root down to the one at a path the dicts of the worths of all properties."""
    rows = []
    values = values_along(sheet, tree, path, width)
    for winning, owns in zip(values, owns_along(values)):
        rows.append(worths_behind(winning, owns, rows[-1] if rows else None))
    return rows


def all_worths(sheet, tree, width):
    """The dict from the paths of all elements to the dicts from all properties to worths."""
    check_width(width)
    worths = {}
    owns = {}
    for spot, winning in zip(tree.all_spots(), values_in(sheet, tree, width)):
        path = spot.path
        above = None if path == () else worths[path[:-1]]
        owns[path] = own_worths(own_sayings(winning), {} if path == () else owns[path[:-1]])
        worths[path] = worths_behind(winning, owns[path], above)
    return worths
