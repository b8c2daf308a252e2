"""How far a class reaches: where worths can become unlike if one element gets it."""

from pagefall.errors import BadClass, BadWhere
from pagefall.grounds import Ground, Search, Standings, least_places
from pagefall.kinds import is_word
from pagefall.properties import PROPERTIES
from pagefall.spines import path_along, tree_along
from pagefall.worths import worths_along

WHERES = ("own", "inside", "behind", "beside")
# Where one is behind a letter with a step; what stands beside or inside stays there.
NEXT_WHERES = {
    ("own", "first"): "inside", ("own", "next"): "behind", ("behind", "first"): "beside", ("behind", "next"): "behind",
}


def where_behind(where, step):
    return NEXT_WHERES.get((where, step), where)


class Forking:
    """The standings at a width, alone or in pairs (where, without, with): two that go along side by side.

    A pair begins at an element that has not the class: with is behind the letter that has it.
    """

    def __init__(self, ground, width, wheres):
        self.ground = ground
        self.standings = Standings(ground, width)
        self.wheres = wheres
        self.partners = [ground.number_with(number) for number in range(3 * len(ground.kinds))]

    def forked(self, moves):
        """Moves of one standing, and those to pairs that begin behind their letters."""
        targets = dict(moves)
        pairs = []
        for letter, number in moves:
            partner = self.partners[letter]
            if partner is not None and targets[partner] != number:
                pairs.append((letter, ("own", number, targets[partner])))
        return [(letter, (None, number, number)) for letter, number in moves] + pairs

    def moves_behind(self, thing):
        where, one, other = thing
        if where is None:
            return self.forked(self.standings.moves_behind(one))
        moves = []
        many = len(self.ground.kinds)
        for (letter, number), (_, beside) in zip(self.standings.moves_behind(one), self.standings.moves_behind(other)):
            there = where_behind(where, "first" if letter < many else "next")
            # Standings that are alike stay alike, and what is not asked need not be gone through.
            if number != beside and leads_to(there, self.wheres):
                moves.append((letter, (there, number, beside)))
        return moves

    def answers_at(self, thing):
        """Where the worths of a pair are unlike, if that is asked."""
        where, one, other = thing
        if where not in self.wheres or self.standings.worths_at(one) == self.standings.worths_at(other):
            return []
        return [where]

    def search(self):
        first_moves = self.forked(self.standings.first_moves)
        return Search(first_moves, self.moves_behind, self.answers_at, len(self.wheres))


def leads_to(where, wheres):
    """Whether some of the asked places are this one or behind it."""
    return where in wheres or where == "behind" and "beside" in wheres


def places_reached(sheet, klass, wheres):
    """The dict from those of the asked places at which worths become unlike to the least places in trees."""
    ground = Ground(sheet, klass)
    return least_places(ground, lambda width: Forking(ground, width, wheres).search())


def check_class(klass):
    if not is_word(klass):
        raise BadClass(klass)


def reach_of(sheet, klass):
    """Where the worths of properties can become unlike if an element gets a class."""
    check_class(klass)
    places = places_reached(sheet, klass, WHERES)
    return [where for where in WHERES if where in places]


def where_from(spine, index):
    """Where the last element of a spine stands to the one with an index."""
    where = "own"
    for letter in spine[index + 1:]:
        where = where_behind(where, letter[0])
    return where


def first_unlike(one, other):
    """The first property of which two dicts tell unlike worths, or None."""
    unlike = [word for word in PROPERTIES if one[word] != other[word]]
    return unlike[0] if unlike else None


def change_at(sheet, place, klass, where):
    """The least index of an element that changes the worths at a place by getting the class, and the first property."""
    spine, width = place
    tree = tree_along(spine)
    path = path_along(spine)
    kept = worths_along(sheet, tree, path, width)[-1]
    for index, letter in enumerate(spine):
        if klass in letter[2] or where_from(spine, index) != where:
            continue
        marked = tree.with_class(path_along(spine[:index + 1]), klass)
        word = first_unlike(kept, worths_along(sheet, marked, path, width)[-1])
        if word is not None:
            return (index, word)
    return None


def reach_shown(sheet, klass, where):
    """The least place at which a worth becomes unlike there, the element that gets the class, and the property."""
    check_class(klass)
    if not isinstance(where, str) or where not in WHERES:
        raise BadWhere(where)
    place = places_reached(sheet, klass, (where,)).get(where)
    return None if place is None else (place,) + change_at(sheet, place, klass, where)
