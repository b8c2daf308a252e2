"""Why a worth is so: the reasons for it, and what a list of reasons comes to."""

from pagefall.errors import BadWord
from pagefall.kinds import is_list, is_path, is_whole
from pagefall.properties import HANDED_DOWN, first_worth, is_marked, is_own_name, is_property, is_use, table_lets
from pagefall.winners import check_width, numbers_along, values_along
from pagefall.worths import own_sayings, owns_along, rings_in, taken_value


def how_of_nothing(path, word):
    """How a word for which nothing is declared has its worth."""
    is_handed = is_own_name(word) or word in HANDED_DOWN
    return "handed" if is_handed and path != () else "first"


class Causes:
    """All that decides the worths of an element and of those above it, by depths."""

    def __init__(self, sheet, tree, path, width):
        self.path = path
        self.won = values_along(sheet, tree, path, width)
        self.numbers = numbers_along(sheet, tree, path, width)
        self.owns = owns_along(self.won)
        self.rings = [rings_in(own_sayings(winning)) for winning in self.won]

    def reason(self, depth, word, how):
        return (self.path[:depth], word, how, self.numbers[depth].get(word))

    def own_how(self, depth, word):
        saying = self.won[depth].get(word)
        if saying is None:
            return how_of_nothing(self.path[:depth], word)
        if not is_use(saying):
            return "plain"
        if word in self.rings[depth]:
            return "round"
        return "use" if saying[1] in self.owns[depth] else how_unused(saying)

    def own_reasons(self, depth, word):
        """The reasons of an own name."""
        reasons = []
        while True:
            how = self.own_how(depth, word)
            reasons.append(self.reason(depth, word, how))
            if how == "round":
                return reasons + [self.reason(depth, word, how_unused(self.won[depth][word]))]
            if how == "handed":
                depth -= 1
            elif how == "use":
                word = self.won[depth][word][1]
            else:
                return reasons

    def property_how(self, depth, word):
        value = self.won[depth].get(word)
        path = self.path[:depth]
        if value is None:
            return how_of_nothing(path, word)
        if is_use(value):
            return "use" if table_lets(word, self.owns[depth].get(value[1])) else how_unused(value)
        return how_declared(path, value)

    def property_reasons(self, depth, word):
        """The reasons of a property."""
        reasons = []
        while True:
            path = self.path[:depth]
            how = self.property_how(depth, word)
            reasons.append(self.reason(depth, word, how))
            if how == "empty":
                how = how_of_nothing(path, word)
                reasons.append((path, word, how, None))
            elif how == "use":
                reasons.extend(self.own_reasons(depth, self.won[depth][word][1]))
            is_times = is_marked(taken_value(word, self.won[depth], self.owns[depth]), "times")
            if how not in ("handed", "parent") and not is_times or depth == 0:
                return reasons
            depth -= 1


def how_unused(use):
    """How a use is taken that does not come to a worth."""
    return "fallback" if len(use) == 3 else "empty"


def how_declared(path, value):
    """How a value of a property is taken that is no use."""
    if value == "as-parent":
        return "first" if path == () else "parent"
    if value == "start":
        return "start"
    return "times" if is_marked(value, "times") else "plain"


def why_worth(sheet, tree, path, word, width):
    """The list of the reasons of a worth, each behind the one that asks for it."""
    path = tree.element_path(path)
    if not is_property(word) and not is_own_name(word):
        raise BadWord(word)
    check_width(width)
    causes = Causes(sheet, tree, path, width)
    return causes.property_reasons(len(path), word) if is_property(word) else causes.own_reasons(len(path), word)


def is_reason(thing):
    """Whether a thing is a reason by itself, of whatever sheet."""
    if not is_list(thing) or len(thing) != 4 or not is_path(thing[0]) or not isinstance(thing[2], str):
        return False
    return (is_property(thing[1]) or is_own_name(thing[1])) and (thing[3] is None or is_whole(thing[3]))


def own_hows(path, word, value):
    """The ways in which a saying (None for none) may be taken for an own name."""
    if value is None:
        return (how_of_nothing(path, word),)
    if not is_use(value):
        return ("plain",)
    # Who uses itself goes round, whatever else is declared.
    return ("round",) if value[1] == word else ("use", "round", how_unused(value))


def property_hows(path, word, value):
    """The ways in which a declared value (None for none) may be taken for a property."""
    if value is None:
        return (how_of_nothing(path, word),)
    return ("use", how_unused(value)) if is_use(value) else (how_declared(path, value),)


class Account:
    """A list of reasons (right ones by themselves) that is gone through; is_right falls where it is none."""

    def __init__(self, sheet, reasons):
        self.rules = sheet.own_rules()
        self.reasons = reasons
        self.at = 0
        self.is_right = True
        self.once = {}

    def declared(self, word, number):
        """What a rule declares for a word, None for no rule."""
        if number is None:
            return None
        if number >= len(self.rules) or word not in self.rules[number].declarations:
            self.is_right = False
            return None
        return self.rules[number].declarations[word]

    def take(self, path, word):
        """The pair (how, value) of the next reason, which has to be this word's at this path."""
        if self.at == len(self.reasons):
            self.is_right = False
            return (None, None)
        there, what, how, number = self.reasons[self.at]
        self.at += 1
        value = self.declared(word, number)
        hows = own_hows(path, word, value) if is_own_name(word) else property_hows(path, word, value)
        # At one element a word has one winner, however often it is asked.
        once = self.once.setdefault((path, word), (how, number))
        if (there, what) != (path, word) or how not in hows or once != (how, number):
            self.is_right = False
        return (how, value)

    def take_again(self, how):
        """Take the reason by which the word of the last one is taken so."""
        path, word, _, number = self.reasons[self.at - 1]
        asked = (path, word, how, None if how in ("handed", "first") else number)
        if self.at == len(self.reasons) or self.reasons[self.at] != asked:
            self.is_right = False
        self.at += 1

    def own_told(self, path, word):
        """The worth of an own name, None for none: that of the last one that is used or handed down."""
        while True:
            how, value = self.take(path, word)
            if not self.is_right:
                return None
            if how == "round":
                how = how_unused(value)
                self.take_again(how)
            if how == "handed":
                path = path[:-1]
            elif how == "use":
                word = value[1]
            else:
                return own_end(how, value)

    def value_taken(self, path, word, how, value):
        """What a property is told by one reason (behind a use: by all those behind it)."""
        if how == "use":
            worth = self.own_told(path, value[1])
            self.is_right = self.is_right and table_lets(word, worth)
            return worth
        if how == "fallback":
            return value[2]
        return first_worth(word, path == ()) if how in ("first", "start") else value

    def property_told(self, path, word):
        """The worth of a property."""
        hundredths = []
        while True:
            how, value = self.take(path, word)
            if self.is_right and how == "empty":
                how = how_of_nothing(path, word)
                self.take_again(how)
            if not self.is_right:
                return None
            if how not in ("handed", "parent"):
                value = self.value_taken(path, word, how, value)
                if not self.is_right:
                    return None
                if not is_marked(value, "times"):
                    return sized(value, hundredths)
                hundredths.append(value[1])
                if path == ():
                    return sized(first_worth(word, True), hundredths)
            path = path[:-1]


def own_end(how, value):
    """The worth of an own name at the end of its reasons."""
    if how == "plain":
        return value
    return value[2] if how == "fallback" else None


def sized(worth, hundredths):
    """A worth, or a size of which hundredths are taken, the last ones first."""
    for number in hundredths[::-1]:
        worth = max(1, number * worth // 100)
    return worth


def worth_by(sheet, reasons):
    """What a list of reasons comes to, None for any object that is none."""
    if not is_list(reasons) or len(reasons) == 0 or not all([is_reason(reason) for reason in reasons]):
        return None
    account = Account(sheet, [(tuple(path), word, how, number) for path, word, how, number in reasons])
    path, word = account.reasons[0][:2]
    worth = account.own_told(path, word) if is_own_name(word) else account.property_told(path, word)
    return worth if account.is_right and account.at == len(account.reasons) else None
