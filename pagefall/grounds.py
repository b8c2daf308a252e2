"""A sheet asked of all trees: the stands of all its selectors and the worths by them, gone through letter by letter."""

from pagefall.questions import asked_classes, class_tuples, letter_names, taken_helds
from pagefall.worths import own_sayings, own_worths, worths_behind

STEPS = ("first", "next", "root")


def with_klass(classes, klass):
    """The ascending tuple of classes with one more, None where it is among them or is no class."""
    return None if klass is None or klass in classes else tuple(sorted(classes + (klass,)))


class Ground:
    """The letters of a sheet, and the stands of all its selectors behind spines, numbered as they are met.

    A MOVE is a pair of the number of a letter and what is behind it; letters with greater numbers come behind as Python
    compares. Of letters that lead alike (and do so, too, where they get klass) the least alone is gone along.
    """

    def __init__(self, sheet, klass=None):
        self.rules = sheet.own_rules()
        self.choosers = [rule.chooser for rule in self.rules]
        selectors = [rule.selector for rule in self.rules]
        self.kinds = self.unlike_kinds(letter_names(selectors, None), class_tuples(asked_classes(selectors)), klass)
        self.numbers = {}
        self.helds = []
        self.matched = []
        self.kept_moves = []
        self.first_moves = self.moves_by(2, [chooser.ahead(None, "root") for chooser in self.choosers])

    def bits_of(self, name, classes):
        return tuple([chooser.bits_of(name, classes) for chooser in self.choosers])

    def unlike_kinds(self, names, tuples, klass):
        """The rows of a name, classes, the bits by them and those with the class besides, or None."""
        kinds = []
        known = set()
        for name in names:
            for classes in tuples:
                bits = self.bits_of(name, classes)
                more = with_klass(classes, klass)
                more_bits = None if more is None else self.bits_of(name, more)
                if (bits, more_bits) not in known:
                    known.add((bits, more_bits))
                    kinds.append((name, classes, bits, more_bits))
        return kinds

    def letter_at(self, number):
        """The letter with a number."""
        name, classes = self.kinds[number % len(self.kinds)][:2]
        return (STEPS[number // len(self.kinds)], name, classes)

    def number_with(self, number):
        """The number of a letter that leads as the one with this number leads with the class, None if it has it."""
        more_bits = self.kinds[number % len(self.kinds)][3]
        if more_bits is None:
            return None
        alike = [k for k, kind in enumerate(self.kinds) if kind[2] == more_bits]
        return number - number % len(self.kinds) + alike[0]

    def moves_by(self, step, helds):
        """The moves by letters with a step (its index) to the stands that can be behind them."""
        moves = []
        for k, kind in enumerate(self.kinds):
            moves.append((step * len(self.kinds) + k, self.number_of(step == 2, taken_helds(helds, kind[2]))))
        return moves

    def number_of(self, is_root, helds):
        """The number of stands; those of roots are kept apart, for without selectors nothing tells them."""
        key = (is_root, helds)
        if key not in self.numbers:
            self.numbers[key] = len(self.helds)
            self.helds.append(key)
            self.matched.append(tuple([held[0] & 1 == 1 for held in helds]))
            self.kept_moves.append(None)
        return self.numbers[key]

    def moves_behind(self, number):
        """The moves from stands: by first child elements, and, where it is no root, by next siblings."""
        if self.kept_moves[number] is None:
            is_root, helds = self.helds[number]
            moves = self.moves_by(0, self.helds_ahead(helds, "first"))
            if not is_root:
                moves.extend(self.moves_by(1, self.helds_ahead(helds, "next")))
            self.kept_moves[number] = moves
        return self.kept_moves[number]

    def helds_ahead(self, helds, step):
        return [chooser.ahead(held, step) for chooser, held in zip(self.choosers, helds)]

    def widths(self):
        """The ascending widths, 0 or ends of conditions, at each of which other rules are on than at those ahead."""
        ends = {0: True}
        for rule in self.rules:
            for end in rule.condition or ():
                if end is not None:
                    ends[end] = True
        known = set()
        widths = []
        for end in sorted(ends):
            on = tuple([rule.is_on((end, 1)) for rule in self.rules])
            if on not in known:
                known.add(on)
                widths.append((end, 1))
        return widths


class Standings:
    """The standings of a ground at a width, numbered as they are met."""

    def __init__(self, ground, width):
        self.ground = ground
        self.rules = sorted([rule for rule in ground.rules if rule.is_on(width)], key=lambda rule: rule.strength)
        self.made = {}
        self.owns = []
        self.worths = []
        self.worth_numbers = {}
        self.numbers = {}
        self.states = []
        self.kept_moves = []
        self.first_moves = self.moves_by(ground.first_moves, None)

    def winning(self, matched):
        """The dict from words to the rules that win them where these rules match."""
        winning = {}
        for rule in self.rules:
            if matched[rule.number]:
                for word in rule.declarations:
                    winning[word] = rule
        return winning

    def worth_number(self, matched, parent):
        """The number of the worths of an element that these rules match by that of its parent's (None for none)."""
        on = tuple([matched[rule.number] for rule in self.rules])
        if (on, parent) not in self.made:
            winning = self.winning(matched)
            values = {word: winning[word].declarations[word] for word in winning}
            owns = own_worths(own_sayings(values), {} if parent is None else self.owns[parent])
            worths = worths_behind(values, owns, None if parent is None else self.worths[parent])
            self.made[(on, parent)] = self.number_of_worths(owns, worths)
        return self.made[(on, parent)]

    def number_of_worths(self, owns, worths):
        key = (tuple([(word, owns[word]) for word in sorted(owns)]), tuple(list(worths.values())))
        if key not in self.worth_numbers:
            self.worth_numbers[key] = len(self.worths)
            self.owns.append(owns)
            self.worths.append(worths)
        return self.worth_numbers[key]

    def moves_by(self, moves, parent):
        """Moves between stands made moves to standings in which the parent's worths have a number."""
        return [(letter, self.number_of(number, parent)) for letter, number in moves]

    def number_of(self, stands, parent):
        state = (stands, self.worth_number(self.ground.matched[stands], parent), parent)
        if state not in self.numbers:
            self.numbers[state] = len(self.states)
            self.states.append(state)
            self.kept_moves.append(None)
        return self.numbers[state]

    def moves_behind(self, number):
        """The moves from a standing."""
        if self.kept_moves[number] is None:
            stands, worth, parent = self.states[number]
            moves = self.ground.moves_behind(stands)
            many = len(self.ground.kinds)
            self.kept_moves[number] = self.moves_by(moves[:many], worth) + self.moves_by(moves[many:], parent)
        return self.kept_moves[number]

    def worths_at(self, number):
        """The dict of the worths of the last element behind a spine."""
        return self.worths[self.states[number][1]]


class Search:
    """The least spines at which answers come, of all spines gone through by length, then as Python compares.

    Several moves may go by one letter: what they lead to has one spine then, and goes on side by side.
    """

    def __init__(self, first_moves, moves_behind, answers_at, many):
        self.many = many
        self.known = {}
        self.links = {}
        groups = self.met(None, first_moves, answers_at)
        while groups and not self.is_done():
            longer = []
            for link, things in groups:
                moves = [move for thing in things for move in moves_behind(thing)]
                longer.extend(self.met(link, moves, answers_at))
            groups = longer

    def is_done(self):
        return self.many is not None and len(self.links) >= self.many

    def met(self, link, moves, answers_at):
        """The groups of the things that are new behind one letter more, each with its link; keep their answers."""
        groups = []
        last = None
        for letter, thing in sorted(moves, key=lambda move: move[0]):
            if thing in self.known or self.is_done():
                continue
            self.known[thing] = True
            if letter != last:
                groups.append(((link, letter), []))
                last = letter
            groups[-1][1].append(thing)
            for answer in answers_at(thing):
                self.links.setdefault(answer, groups[-1][0])
        return groups

    def spines(self, ground):
        """The dict from answers to spines."""
        return {answer: spine_by(ground, self.links[answer]) for answer in self.links}


def spine_by(ground, link):
    """The spine at the end of a chain of pairs of a link ahead and the number of a letter."""
    spine = []
    while link is not None:
        link, number = link
        spine.append(ground.letter_at(number))
    return spine[::-1]


def place_key(place):
    """What orders places: by length of the spines, as Python compares them, by widths."""
    spine, width = place
    return (len(spine), spine, width)


def least_places(ground, search_at):
    """The dict from answers to their least places, in the order of these, of the searches at all widths."""
    places = {}
    for width in ground.widths():
        spines = search_at(width).spines(ground)
        for answer in spines:
            place = (spines[answer], width)
            if answer not in places or place_key(place) < place_key(places[answer]):
                places[answer] = place
    return {answer: places[answer] for answer in sorted(places, key=lambda answer: place_key(places[answer]))}
