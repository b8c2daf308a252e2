"""What the document says of sheets, done in the plainest way, and sheets that look thrown."""

from fractions import Fraction

from naive import is_naively_matched, some_selector

LENGTHS = [0, 7, ("part", 50)]
VALUES = {
    "show": ["block", "none"], "width": ["auto", 9, ("part", 30)], "height": ["auto", 5], "most": ["none", 8], "mleft": ["auto", ("part", 1)],
    "size": [12, ("times", 150), ("times", 3), 1], "align": ["mid", "right"], "layer": [-3, 4], "at": ["none", (("part", 4), -2), (3, 1)],
    "fill": ["none", "w"], "ink": ["r", "g"], "grow": [2], "span": [3],
}
OWN_NAMES = ["--p", "--q", "--s"]
FIRSTS = {
    "show": "line", "side": "none", "width": "auto", "base": "auto", "height": "auto", "least": 0, "most": "none", "mleft": 0,
    "mright": 0, "pleft": 0, "pright": 0, "mtop": 0, "mbottom": 0, "ptop": 0, "pbottom": 0, "grow": 0, "gap": 0, "shrink": 1,
    "span": 1, "wrap": "no", "size": 10, "align": "left", "layer": 0, "at": "none", "fill": "none", "ink": "x",
}


def some_value(dice, word):
    """A value that is let for a property or an own name."""
    fall = dice.throw(8)
    own = dice.pick(OWN_NAMES)
    let = VALUES[word] if word in VALUES else [value for values in VALUES.values() for value in values]
    if fall == 0:
        return ("use", own)
    if fall == 1:
        return ("use", own, dice.pick(let))
    if fall == 2 and word in VALUES:
        return dice.pick(["as-parent", "start"])
    return dice.pick(let)


def some_rule(dice):
    words = [word for word in list(VALUES) + OWN_NAMES + OWN_NAMES if dice.throw(3) == 0]
    condition = dice.pick([None, None, (0, 100), (50, None), (100, 200)])
    selector = some_selector(dice, ["a", "b"], ["k"], 2)
    return (dice.throw(4), selector, {word: some_value(dice, word) for word in words}, condition)


def weight(selector):
    simples = [simple for _, simple in selector]
    asked = sum(len(simple[1]) + len(simple[2]) + (simple[3] is not None) for simple in simples)
    return (asked, sum(simple[0] is not None for simple in simples))


class Plain:
    """Rules, the nodes of a tree by their paths, and a width: each question by what it says."""

    def __init__(self, rules, nodes, width):
        self.rules = rules
        self.nodes = nodes
        self.width = Fraction(width[0], width[1])

    def is_on(self, condition):
        return condition is None or condition[0] <= self.width and (condition[1] is None or self.width < condition[1])

    def asked(self, path, word):
        numbers = [number for number, (_, selector, declared, condition) in enumerate(self.rules)
                   if word in declared and self.is_on(condition) and is_naively_matched(self.nodes, path, selector)]
        return sorted(numbers, key=lambda number: (self.rules[number][0], weight(self.rules[number][1]), number), reverse=True)

    def saying(self, path, word):
        numbers = self.asked(path, word)
        return self.rules[numbers[0]][2][word] if numbers else None

    def is_ringed(self, path, word):
        at, seen = word, []
        while True:
            saying = self.saying(path, at)
            if not is_use(saying):
                return False
            at = saying[1]
            if at == word:
                return True
            if at in seen:
                return False
            seen.append(at)

    def own(self, path, word):
        saying = self.saying(path, word)
        if saying is None:
            return self.own(path[:-1], word) if path else None
        if not is_use(saying):
            return saying
        worth = None if self.is_ringed(path, word) else self.own(path, saying[1])
        if worth is not None:
            return worth
        return saying[2] if len(saying) == 3 else None

    def first(self, path, word):
        return "block" if word == "show" and path == () else FIRSTS[word]

    def worth(self, path, word):
        value = self.saying(path, word)
        if is_use(value):
            own = self.own(path, value[1])
            if own is not None and lets(word, own):
                value = own
            else:
                value = value[2] if len(value) == 3 else None
        if value == "start" or value is None and word not in ("size", "align", "ink"):
            return self.first(path, word)
        if value == "as-parent" or value is None:
            return self.worth(path[:-1], word) if path else self.first(path, word)
        if word == "size" and isinstance(value, tuple):
            return max(1, value[1] * (self.worth(path[:-1], word) if path else 10) // 100)
        return value


def is_use(value):
    return isinstance(value, tuple) and value[0] == "use"


def lets(word, value):
    """Whether the table lets one of the values above for a property."""
    number = isinstance(value, int) and value >= 0
    length = number or isinstance(value, tuple) and value[0] == "part"
    return {
        "show": value in ("block", "none"), "width": value == "auto" or length, "height": value == "auto" or number,
        "most": value == "none" or number, "mleft": value == "auto" or length,
        "size": number and value > 0 or isinstance(value, tuple) and value[0] == "times", "align": value in ("mid", "right"),
        "layer": isinstance(value, int), "at": value == "none" or isinstance(value, tuple) and isinstance(value[1], int) and value[0] not in ("part", "times"),
        "fill": value == "none" or isinstance(value, str) and len(value) == 1, "ink": isinstance(value, str) and len(value) == 1,
        "grow": number, "span": number and value > 0,
    }[word]
