"""Section 7 in the plainest way: all short spines at all widths that count, one by one."""

from naive import Dice, all_spines
from pagefall.grounds import Ground, Standings
from pagefall.properties import PROPERTIES
from pagefall.sheets import Sheet
from pagefall.spines import path_along, tree_along
from pagefall.winners import winner_of
from pagefall.worths import worths_along

WORDS = ["ink", "fill", "align", "grow", "width", "show", "--p", "--q"]
FALLBACKS = {"ink": "z", "fill": "v", "align": "mid", "grow": 7, "width": 3, "show": "row"}
LET = {"ink": ["r", "g"], "fill": ["none", "w"], "align": ["mid", "right"], "grow": [2, 3], "width": ["auto", 5, ("part", 50)], "show": ["block", "none"]}
MODES = ("own", "inside", "behind", "beside")


def some_value(dice, word):
    fall = dice.throw(7)
    if fall == 0:
        return ("use", dice.pick(["--p", "--q"]))
    if word not in LET:
        return dice.pick(["r", "g", 3, "right", ("use", "--q", 5)])
    if fall == 1:
        return ("use", dice.pick(["--p", "--q"]), FALLBACKS[word])
    return dice.pick(["as-parent", "start"]) if fall == 2 else dice.pick(LET[word])


def many_standings(sheet, width, most):
    """How many standings there are at a width, or one more than the most."""
    standings = Standings(Ground(sheet), width)
    at = 0
    while at < len(standings.states) <= most:
        standings.moves_behind(at)
        at += 1
    return len(standings.states)


def some_sheet(dice, most=300):
    """A sheet that asks b, k and two places, at most, with at most so many standings."""
    while True:
        sheet = some_rules(dice, ["b"], ["k"], [(2, 0), (0, 2)], 4, (None, (0, 100), (50, 200), (70, None)))
        if all(many_standings(sheet, width, most) <= most for width in widths_of(sheet)):
            return sheet


def large_sheet():
    """A sheet with more than fifteen hundred standings at a width, and at most two thousand."""
    dice = Dice(51)
    sheets = [some_rules(dice, ["a", "b"], ["k", "m"], [(2, 0), (0, 2)], 6, (None, (0, 100), (50, 200))) for _ in range(6)]
    assert 1500 < many_standings(sheets[5], (60, 1), 2000) <= 2000
    return sheets[5]


def some_rules(dice, names, classes, places, most, conditions):
    """A sheet that asks these names, classes and places, at most."""
    rules = []
    for _ in range(1 + dice.throw(most)):
        steps = []
        for at in range(1 + dice.throw(3)):
            has, lacks = [], []
            for word in classes:
                fall = dice.throw(4)
                if fall < 2:
                    (has if fall == 0 else lacks).append(word)
            relation = None if at == 0 else dice.pick(["child", "below", "next", "behind"])
            steps.append((relation, (dice.pick(list(names) + [None]), has, lacks, dice.pick(places) if dice.throw(3) == 0 else None)))
        declared = {word: some_value(dice, word) for word in WORDS if dice.throw(3) == 0}
        rules.append((dice.throw(2), steps, declared, dice.pick(conditions)))
    return Sheet(rules)


def letters_of(sheet):
    """The names and tuples of classes of the letters, for sheets that ask at most the name b and the class k."""
    simples = [simple for _, selector, _, _ in sheet.all_rules() for _, simple in selector]
    names = {simple[0] for simple in simples} - {None}
    classes = {word for simple in simples for word in simple[1] + simple[2]}
    return sorted(names | {"a"}), [()] + [(word,) for word in sorted(classes)]


def widths_of(sheet):
    ends = {end for _, _, _, condition in sheet.all_rules() for end in condition or () if end is not None}
    return [(end, 1) for end in sorted(ends | {0})]


class Spot:
    """A place, its tree, and the worths of the elements above the last one and of itself."""

    def __init__(self, sheet, spine, width):
        self.place = (spine, width)
        self.tree = tree_along(spine)
        self.path = path_along(spine)
        self.rows = worths_along(sheet, self.tree, self.path, width)
        self.worths = self.rows[-1]

    def has(self, wishes):
        return all(self.worths[word] == wishes[word] for word in wishes)


def all_spots(sheet, most):
    """All places of spines of at most so many letters, in their order."""
    names, classes = letters_of(sheet)
    for spine in all_spines(names, classes, most):
        for width in widths_of(sheet):
            yield Spot(sheet, spine, width)


def first_place(spots, is_so):
    for spot in spots:
        if is_so(spot):
            return spot.place
    return None


def wins(sheet, spot, number, word):
    return winner_of(sheet, spot.tree, spot.path, word, spot.place[1]) == number


def mode_of(spine, index):
    """Where the last element stands to the one with an index."""
    steps = [letter[0] for letter in spine[index + 1:]]
    if not steps:
        return "own"
    if steps[0] == "first":
        return "inside"
    return "beside" if "first" in steps else "behind"


def changes_at(sheet, spot, klass):
    """For each of the four the first pair (index, word) by which the worths become unlike."""
    spine, width = spot.place
    found = {}
    for index, letter in enumerate(spine):
        mode = mode_of(spine, index)
        if klass in letter[2] or mode in found:
            continue
        marked = [letter if at != index else (letter[0], letter[1], tuple(sorted(letter[2] + (klass,)))) for at, letter in enumerate(spine)]
        other = Spot(sheet, marked, width).worths
        unlike = [word for word in PROPERTIES if other[word] != spot.worths[word]]
        if unlike:
            found[mode] = (index, unlike[0])
    return found
