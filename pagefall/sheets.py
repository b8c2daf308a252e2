"""Sheets of rules."""

from pagefall.choosers import Chooser
from pagefall.errors import BadNumber, BadRule
from pagefall.kinds import is_integer, is_list, is_whole
from pagefall.properties import is_let, is_own_name, is_property, ordered_words, told_value
from pagefall.selectors import is_selector, told_selector, weight_of

HIGHEST_LEVEL = 3


def is_condition(thing):
    if thing is None:
        return True
    if not is_list(thing) or len(thing) != 2 or not is_whole(thing[0]):
        return False
    return thing[1] is None or is_integer(thing[1]) and thing[1] > thing[0]


def is_declared(word, value):
    return (is_property(word) or is_own_name(word)) and is_let(word, value)


def is_rule(thing):
    if not is_list(thing) or len(thing) != 4:
        return False
    level, selector, declarations, condition = thing
    if not is_whole(level) or level > HIGHEST_LEVEL or not is_selector(selector) or not isinstance(declarations, dict):
        return False
    return is_condition(condition) and all([is_declared(word, value) for word, value in declarations.items()])


def told_declarations(declarations):
    """A new dict, properties in their order, then own names."""
    return {word: told_value(declarations[word]) for word in ordered_words(list(declarations))}


class Rule:
    """A rule (a right one) made ready to be asked."""

    def __init__(self, rule, number):
        level, selector, declarations, condition = rule
        self.number = number
        self.level = level
        self.selector = told_selector(selector)
        self.declarations = told_declarations(declarations)
        self.condition = None if condition is None else tuple(condition)
        self.chooser = Chooser(self.selector)
        self.strength = (level, weight_of(selector), number)

    def told(self):
        return (self.level, told_selector(self.selector), told_declarations(self.declarations), self.condition)

    def is_on(self, width):
        """Whether the condition holds at a width."""
        if self.condition is None:
            return True
        top, bottom = width
        start, end = self.condition
        return start * bottom <= top and (end is None or top < end * bottom)


class Sheet:
    """A list of rules; it never changes."""

    def __init__(self, rules):
        if not is_list(rules):
            raise BadRule(0)
        for index, rule in enumerate(rules):
            if not is_rule(rule):
                raise BadRule(index)
        self._rules = [Rule(rule, number) for number, rule in enumerate(rules)]

    def __eq__(self, other):
        return isinstance(other, Sheet) and self.all_rules() == other.all_rules()

    def __len__(self):
        return len(self._rules)

    def all_rules(self):
        """The rules, told anew."""
        return [rule.told() for rule in self._rules]

    def with_rule(self, rule, number):
        """The sheet with a rule put in ahead of the one with a number."""
        if not is_whole(number) or number > len(self._rules):
            raise BadNumber(number)
        if not is_rule(rule):
            raise BadRule(number)
        rules = self.all_rules()
        return Sheet(rules[:number] + [rule] + rules[number:])

    def without_rule(self, number):
        """The sheet without the rule with a number."""
        if not is_whole(number) or number >= len(self._rules):
            raise BadNumber(number)
        rules = self.all_rules()
        return Sheet(rules[:number] + rules[number + 1:])

    def own_rules(self):
        """The rules made ready to be asked, by their numbers."""
        return list(self._rules)

    def rules_on(self, width):
        """The rules that are on at a width, the weakest first."""
        return sorted([rule for rule in self._rules if rule.is_on(width)], key=lambda rule: rule.strength)
