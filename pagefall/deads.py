"""Declarations that win nowhere, in no tree at no width, and sheets without them."""

from pagefall.errors import BadNumber, BadWord
from pagefall.grounds import Ground, Search, Standings, least_places
from pagefall.kinds import is_whole
from pagefall.sheets import Sheet


def places_of_wins(sheet, wanted):
    """The dict from those of the wanted pairs (number, word) that win somewhere to the least places."""
    ground = Ground(sheet)

    def search_at(width):
        standings = Standings(ground, width)
        answers = {}

        def answers_at(number):
            matched = ground.matched[number]
            if matched not in answers:
                winning = standings.winning(matched)
                pairs = [(winning[word].number, word) for word in winning]
                answers[matched] = [pair for pair in pairs if pair in wanted]
            return answers[matched]

        return Search(ground.first_moves, ground.moves_behind, answers_at, len(wanted))

    return least_places(ground, search_at)


def wins_ever(sheet, number, word):
    """The least place at which a rule is the winner of a word, or None."""
    rules = sheet.own_rules()
    if not is_whole(number) or number >= len(rules):
        raise BadNumber(number)
    if not isinstance(word, str) or word not in rules[number].declarations:
        raise BadWord(word)
    return places_of_wins(sheet, [(number, word)]).get((number, word))


def dead_ones(sheet):
    """The pairs (number, word) of all declarations that win nowhere."""
    pairs = [(rule.number, word) for rule in sheet.own_rules() for word in rule.declarations]
    places = places_of_wins(sheet, pairs)
    return [pair for pair in pairs if pair not in places]


def alive_sheet(sheet):
    """The sheet without what is dead, and without rules that declare nothing then."""
    dead = dead_ones(sheet)
    rules = []
    for number, (level, selector, declarations, condition) in enumerate(sheet.all_rules()):
        alive = {word: declarations[word] for word in declarations if (number, word) not in dead}
        if alive:
            rules.append((level, selector, alive, condition))
    return Sheet(rules)
