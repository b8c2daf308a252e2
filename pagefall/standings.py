"""What elements can have: asked of a sheet for all trees at all widths, answered by least places."""

from pagefall.errors import BadGiven, BadWord
from pagefall.grounds import Ground, Search, Standings, least_places
from pagefall.properties import is_property, is_worth, told_value
from pagefall.spines import path_along, tree_along
from pagefall.worths import worths_along


def told_wishes(wishes):
    """The wishes, told anew, if they are right."""
    if not isinstance(wishes, dict):
        raise BadGiven(wishes)
    for word in wishes:
        if not is_property(word) or not is_worth(word, wishes[word]):
            raise BadGiven(word)
    return {word: told_value(wishes[word]) for word in wishes}


def has_all(worths, wishes):
    return all([worths[word] == wishes[word] for word in wishes])


def places_by(sheet, answers_by, many):
    """The least places of the answers that answers_by gives for the worths of elements, up to so many at a width."""
    ground = Ground(sheet)

    def search_at(width):
        standings = Standings(ground, width)
        return Search(standings.first_moves, standings.moves_behind,
                      lambda number: answers_by(standings.worths_at(number)), many)

    return least_places(ground, search_at)


def place_where(sheet, is_so):
    """The least place at which the worths are so, or None."""
    return places_by(sheet, lambda worths: [True] if is_so(worths) else [], 1).get(True)


def can_have(sheet, wishes):
    """The least place at which an element has all the wished worths, or None."""
    told = told_wishes(wishes)
    return place_where(sheet, lambda worths: has_all(worths, told))


def worths_coming(sheet, word):
    """The pairs of a worth that a property has somewhere and its least place, in the order of places."""
    return worths_given(sheet, {}, word)


def worths_given(sheet, wishes, word):
    """The same of those elements alone that have the wished worths."""
    told = told_wishes(wishes)
    if not is_property(word):
        raise BadWord(word)
    places = places_by(sheet, lambda worths: [worths[word]] if has_all(worths, told) else [], None)
    return list(places.items())


def surely_has(sheet, wishes, others):
    """None if whatever has the wished worths has the other ones, too, else the least place at which it has not."""
    told = told_wishes(wishes)
    told_others = told_wishes(others)
    return place_where(sheet, lambda worths: has_all(worths, told) and not has_all(worths, told_others))


def holding_moves(moves, many, here, above):
    """Moves made moves to pairs: first child elements stand within an upper one if here says so, others if above."""
    return [(letter, (number, here if letter < many else above)) for letter, number in moves]


def innermost_upper(sheet, place, wishes):
    """The index in a spine of the innermost element above its last one that has the wished worths."""
    spine, width = place
    outer = [at - 1 for at in range(1, len(spine)) if spine[at][0] == "first"]
    rows = worths_along(sheet, tree_along(spine), path_along(spine), width)
    return [at for at, worths in zip(outer, rows) if has_all(worths, wishes)][-1]


def can_hold(sheet, upper, lower):
    """None if nowhere a lower one stands within an upper one, else the least place of one and the upper one's index."""
    told_upper = told_wishes(upper)
    told_lower = told_wishes(lower)
    ground = Ground(sheet)
    many = len(ground.kinds)

    def search_at(width):
        standings = Standings(ground, width)

        def moves_behind(thing):
            number, is_within = thing
            here = is_within or has_all(standings.worths_at(number), told_upper)
            return holding_moves(standings.moves_behind(number), many, here, is_within)

        def answers_at(thing):
            return [True] if thing[1] and has_all(standings.worths_at(thing[0]), told_lower) else []

        return Search(holding_moves(standings.first_moves, many, False, False), moves_behind, answers_at, 1)

    place = least_places(ground, search_at).get(True)
    return None if place is None else (place, innermost_upper(sheet, place, told_upper))
