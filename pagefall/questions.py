"""Questions that are asked of all trees: letters, joint stands in bits, and the walk through them."""

from pagefall.choosers import Chooser
from pagefall.errors import BadList
from pagefall.kinds import is_list
from pagefall.nests import check_nest
from pagefall.selectors import is_selector

LETTERS = "abcdefghijklmnopqrstuvwxyz"


def check_selectors(things):
    """Raise an error for the first thing that is no selector."""
    if not is_list(things):
        raise BadList(0)
    for index, thing in enumerate(things):
        if not is_selector(thing):
            raise BadList(index)


def free_name(names):
    """The first word, by length, then as Python compares, that is none of the names."""
    words = [""]
    while True:
        words = [word + letter for word in words for letter in LETTERS]
        free = [word for word in words if word not in names]
        if free:
            return free[0]


def asked_names(selectors):
    """The names that selectors ask, as keys of a dict."""
    return {simple[0]: True for selector in selectors for _, simple in selector if simple[0] is not None}


def asked_classes(selectors):
    """The ascending list of the classes that selectors ask."""
    simples = [simple for selector in selectors for _, simple in selector]
    return sorted(set([klass for simple in simples for klass in list(simple[1]) + list(simple[2])]))


def nest_names(nest):
    """The names that stand in a nest."""
    roots, inner = nest
    return list(roots) + list(inner) + [word for words in inner.values() for word in words]


def letter_names(selectors, nest):
    """The ascending list of the names of the letters of a question."""
    if nest is not None:
        return sorted(set(nest_names(nest)))
    asked = asked_names(selectors)
    return sorted(list(asked) + [free_name(asked)])


def class_tuples(classes):
    """All ascending tuples of some of the classes, as Python orders them."""
    found = [()]
    for klass in classes:
        found = found + [some + (klass,) for some in found]
    return sorted(found)


class Question:
    """Selectors (right ones) asked of all trees of a nest.

    A STATE is a joint stand in bits: (helds of the selectors, name of the element, name of its parent), both names None
    where the nest is None.
    """

    def __init__(self, selectors, nest):
        self.choosers = [Chooser(selector) for selector in selectors]
        self.nest = nest
        self.kinds = self.unlike_kinds(letter_names(selectors, nest), class_tuples(asked_classes(selectors)))

    def unlike_kinds(self, names, tuples):
        """The triples of a name, classes and the bits by them: of those that lead alike the least alone."""
        kinds = []
        known = set()
        for name in names:
            for classes in tuples:
                bits = tuple([chooser.bits_of(name, classes) for chooser in self.choosers])
                kept = None if self.nest is None else name
                if (kept, bits) not in known:
                    known.add((kept, bits))
                    kinds.append((name, classes, bits))
        return kinds

    def first_ways(self):
        """The ways from nothing to the states of roots."""
        helds = [chooser.ahead(None, "root") for chooser in self.choosers]
        roots = None if self.nest is None else self.nest[0]
        return self.ways("root", helds, None, roots)

    def ways_behind(self, state):
        """The ways from a state to those behind one letter more, ascending by letters."""
        _, name, parent = state
        ways = self.ways("first", self.helds_ahead(state, "first"), name, self.names_in(name))
        if not self.is_root(state):
            ways.extend(self.ways("next", self.helds_ahead(state, "next"), parent, self.names_in(parent)))
        return ways

    def helds_ahead(self, state, step):
        return [chooser.ahead(held, step) for chooser, held in zip(self.choosers, state[0])]

    def names_in(self, name):
        """The names that may stand in an element, or None for any."""
        return None if self.nest is None else self.nest[1].get(name, ())

    def ways(self, step, helds, parent, allowed):
        """The pairs of a letter with this step and the state behind it, ascending by letters."""
        ways = []
        for name, classes, bits in self.kinds:
            if allowed is None:
                ways.append(((step, name, classes), (taken_helds(helds, bits), None, None)))
            elif name in allowed:
                ways.append(((step, name, classes), (taken_helds(helds, bits), name, parent)))
        return ways

    def is_root(self, state):
        """Whether a state is that of a root (of no selectors in no nest there is one state alone)."""
        helds, _, parent = state
        if self.nest is not None:
            return parent is None
        return len(helds) == 0 or helds[0][1] is None

    def matched_by(self, state):
        """For each selector whether it matches the element."""
        return [held[0] & 1 == 1 for held in state[0]]


def taken_helds(helds, bits):
    return tuple([(held[0] & mask,) + held[1:] for held, mask in zip(helds, bits)])


class Walk:
    """All states of a question, ascending by their least spines, up to the first one that is wanted.

    Spines are tried by length, then letter by letter as Python compares, so the first one that leads to a state is
    its least one.
    """

    def __init__(self, question, is_wanted):
        self.question = question
        self.states = []
        self.links = []
        self.known = {}
        self.hit = None
        self.meet(None, question.first_ways(), is_wanted)
        at = 0
        while self.hit is None and at < len(self.states):
            self.meet(at, question.ways_behind(self.states[at]), is_wanted)
            at += 1

    def meet(self, source, ways, is_wanted):
        """Keep the states that are new, with the index of the one they are behind and the letter."""
        for letter, state in ways:
            if state in self.known:
                continue
            self.known[state] = True
            self.states.append(state)
            self.links.append((source, letter))
            if is_wanted(self.question.matched_by(state)):
                self.hit = len(self.states) - 1
                return

    def spine_to(self, at):
        """The least spine that leads to the state at an index."""
        spine = []
        while at is not None:
            at, letter = self.links[at]
            spine.append(letter)
        return spine[::-1]

    def spine_found(self):
        """The least spine that leads to a wanted state, or None."""
        return None if self.hit is None else self.spine_to(self.hit)


def is_just_these(matched, many):
    """Whether of the selectors just the first so many match."""
    return all(matched[:many]) and not any(matched[many:])


def question_of(has, lacks, nest):
    """The question of selectors that are to match and others that are not, if all of it is right."""
    check_selectors(has)
    check_selectors(lacks)
    check_nest(nest)
    return Question(list(has) + list(lacks), nest)


def walk_to(question, many):
    """The walk up to the first state in which just the first so many selectors match."""
    return Walk(question, lambda matched: is_just_these(matched, many))
