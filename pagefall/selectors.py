"""Selectors, and which elements of a tree they match."""

from pagefall.choosers import RELATIONS, Chooser, is_in_place, is_of_simple
from pagefall.errors import BadSelector
from pagefall.kinds import is_integer, is_list, is_word, is_words


def is_place(thing):
    """Whether a thing is what a simple may ask as its place."""
    if thing is None:
        return True
    if not is_list(thing) or len(thing) != 2 or not is_integer(thing[0]) or not is_integer(thing[1]):
        return False
    many, rest = thing
    return rest >= 1 if many == 0 else 0 <= rest < many


def is_simple(thing):
    if not is_list(thing) or len(thing) != 4:
        return False
    name, has, lacks, place = thing
    if name is not None and not is_word(name):
        return False
    if not is_words(has) or not is_words(lacks) or any([klass in lacks for klass in has]):
        return False
    return is_place(place)


def is_relation(thing):
    return isinstance(thing, str) and thing in RELATIONS


def is_selector(thing):
    if not is_list(thing) or len(thing) == 0:
        return False
    if not all([is_list(step) and len(step) == 2 and is_simple(step[1]) for step in thing]):
        return False
    return thing[0][0] is None and all([is_relation(step[0]) for step in thing[1:]])


def check_selector(thing):
    if not is_selector(thing):
        raise BadSelector(thing)


def told_simple(simple):
    name, has, lacks, place = simple
    return (name, sorted(has), sorted(lacks), None if place is None else tuple(place))


def told_selector(selector):
    """The selector as it is told: a new list, classes ascending."""
    return [(relation, told_simple(simple)) for relation, simple in selector]


def is_matched(tree, path, selector):
    """Whether a selector matches the element at a path."""
    return given_spots(tree, path, selector) is not None


def matched_paths(tree, selector):
    """The paths of all elements that a selector matches, in tree order."""
    check_selector(selector)
    spots = tree.all_spots()
    helds = Chooser(selector).helds_in(spots)
    return [spot.path for spot, held in zip(spots, helds) if held[0] & 1]


def weight_of(selector):
    """How many classes and places a selector asks, and how many names."""
    check_selector(selector)
    simples = [simple for _, simple in selector]
    classes = sum([len(simple[1]) + len(simple[2]) for simple in simples])
    places = len([simple for simple in simples if simple[3] is not None])
    return (classes + places, len([simple for simple in simples if simple[0] is not None]))


def related_spots(spots, at, relation):
    """The indexes in a spine of all that are to one of it what a relation says, the nearest first."""
    found = []
    if relation in ("next", "behind"):
        while spots[at].step == "next":
            at -= 1
            found.append(at)
    else:
        while spots[at].step != "root":
            at = parent_index(spots, at)
            found.append(at)
    return found if relation in ("below", "behind") else found[:1]


def parent_index(spots, at):
    """The index in a spine of the parent of one of it that is not the root."""
    while spots[at].step == "next":
        at -= 1
    return at - 1


def given_spots(tree, path, selector):
    """The spots given to the steps of a selector, in their order, or None if it does not match."""
    spots = tree.spine_spots(tree.element_path(path))
    check_selector(selector)
    helds = Chooser(selector).helds_along([spot.letter() for spot in spots])
    at = len(spots) - 1
    if not helds[at][0] & 1:
        return None
    given = [spots[at]]
    for step in range(1, len(selector)):
        # What takes the step ahead has one that takes this step, so there is a first one.
        at = [k for k in related_spots(spots, at, selector[step][0]) if helds[k][0] >> step & 1][0]
        given.append(spots[at])
    return given


def given_paths(tree, path, selector):
    """Paths of elements that can be given to the steps of a selector, in their order, or None."""
    given = given_spots(tree, path, selector)
    return None if given is None else [spot.path for spot in given]


def stands_so(tree, path, relation, inner):
    """Whether the element at a path is to an inner one what a relation says."""
    if relation == "child":
        return inner != () and path == inner[:-1]
    if relation == "below":
        return len(path) < len(inner) and path == inner[:len(path)]
    if relation == "next":
        return path == tree.elder_of(inner)
    return path != () and inner != () and path[:-1] == inner[:-1] and path[-1] < inner[-1]


def is_of_step(tree, path, simple):
    """Whether the element at a path is of a simple."""
    spot = tree.spot_at(path)
    return is_of_simple(simple, spot.name, spot.classes) and is_in_place(simple[3], spot.number)


def is_given(tree, path, selector, thing):
    """Whether a thing is a list of paths of elements given to the steps of a selector."""
    path = tree.element_path(path)
    check_selector(selector)
    if not is_list(thing) or len(thing) != len(selector):
        return False
    if not all([tree.has_element(given) for given in thing]):
        return False
    paths = [tuple(given) for given in thing]
    if paths[0] != path or not all([is_of_step(tree, at, step[1]) for at, step in zip(paths, selector)]):
        return False
    return all([stands_so(tree, paths[k], selector[k][0], paths[k - 1]) for k in range(1, len(paths))])
