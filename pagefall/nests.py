"""Nests: which elements may stand in which."""

from pagefall.errors import BadNest
from pagefall.kinds import is_list, is_word, is_words


def is_nest(thing):
    if thing is None:
        return True
    if not is_list(thing) or len(thing) != 2 or not is_words(thing[0]) or not isinstance(thing[1], dict):
        return False
    return len(thing[0]) > 0 and all([is_word(word) and is_words(words) for word, words in thing[1].items()])


def check_nest(thing):
    if not is_nest(thing):
        raise BadNest(thing)


def is_of_nest(tree, nest):
    """Whether each element of a tree stands where a nest lets it stand."""
    check_nest(nest)
    if nest is None:
        return True
    roots, inner = nest
    for spot in tree.all_spots():
        allowed = roots if spot.path == () else inner.get(tree.spot_at(spot.path[:-1]).name, ())
        if spot.name not in allowed:
            return False
    return True
