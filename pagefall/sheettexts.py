"""Selectors, values and sheets as texts, and back."""

from pagefall.errors import BadText, BadValue
from pagefall.kinds import is_integer, is_list
from pagefall.parsing import parsed_number, parsed_simple, parsed_value
from pagefall.properties import PROPERTIES, is_let, is_own_name, is_property, is_use
from pagefall.selectors import check_selector, told_selector
from pagefall.sheets import Sheet

SIGNS = {"child": ">", "below": ">>", "next": "+", "behind": "~"}
RELATIONS = {">": "child", ">>": "below", "+": "next", "~": "behind"}


def simple_text(simple):
    name, has, lacks, place = simple
    text = "*" if name is None else name
    for sign, classes in ((".", has), ("!", lacks)):
        text = text + "".join([sign + klass for klass in classes])
    return text if place is None else text + f":{place[0]}.{place[1]}"


def write_selector(selector):
    """The text of a selector, from its last step to its first."""
    check_selector(selector)
    steps = told_selector(selector)[::-1]
    text = simple_text(steps[0][1])
    for at in range(1, len(steps)):
        text = text + f" {SIGNS[steps[at - 1][0]]} {simple_text(steps[at][1])}"
    return text


def parsed_parts(parts):
    """The selector of the parts between blanks; BadText with the index of the first wrong one."""
    steps = []
    for index, part in enumerate(parts):
        if index % 2 == 1:
            if part not in RELATIONS:
                raise BadText(index)
            continue
        simple = parsed_simple(part)
        if simple is None:
            raise BadText(index)
        relation = RELATIONS[parts[index + 1]] if index + 1 < len(parts) and parts[index + 1] in RELATIONS else None
        steps.append((relation, simple))
    if len(parts) % 2 == 0:
        raise BadText(len(parts))
    return steps[::-1]


def read_selector(text):
    """The selector that is written so."""
    if not isinstance(text, str):
        raise BadText(0)
    return parsed_parts(text.split(" "))


def is_value(thing):
    """Whether any object is let for some property: what is let for an own name is let for one, too."""
    return any([is_let(word, thing) for word in PROPERTIES])


def value_text(value):
    """The text of a value that is let."""
    if isinstance(value, str):
        return value
    if is_integer(value):
        return f"{value}"
    if is_use(value):
        inner = ",".join([value[1]] + [value_text(fallback) for fallback in value[2:]])
        return f"use({inner})"
    if value[0] == "part":
        return f"{value[1]}p"
    if value[0] == "times":
        return f"{value[1]}x"
    return f"({value_text(value[0])},{value_text(value[1])})"


def write_value(value):
    """The text of a value."""
    if not is_value(value):
        raise BadValue(value)
    return value_text(value)


def read_value(text):
    """The value that is written so."""
    value = parsed_value(text) if isinstance(text, str) else None
    if not is_value(value):
        raise BadText(0)
    return value


def condition_text(condition):
    if condition is None:
        return "-"
    return f"{condition[0]}.." if condition[1] is None else f"{condition[0]}..{condition[1]}"


def write_sheet(sheet):
    """The text of a sheet, a line for each rule and each declaration."""
    lines = []
    for level, selector, declarations, condition in sheet.all_rules():
        lines.append(f"rule {level} {condition_text(condition)} {write_selector(selector)}\n")
        for word, value in declarations.items():
            lines.append(f"set {word} {value_text(value)}\n")
    return "".join(lines)


def parsed_condition(text):
    """The pair (whether a text is a condition, the condition)."""
    if text == "-":
        return (True, None)
    start, dots, end = text.partition("..")
    low = parsed_number(start)
    if dots == "" or low is None:
        return (False, None)
    if end == "":
        return (True, (low, None))
    high = parsed_number(end)
    return (high is not None and low < high, (low, high))


def parsed_rule(line):
    """The rule, as yet without declarations, of a line, or None."""
    parts = line.split(" ")
    if len(parts) < 4 or parts[0] != "rule" or parts[1] not in ("0", "1", "2", "3"):
        return None
    is_right, condition = parsed_condition(parts[2])
    selector = selector_or_none(parts[3:])
    if not is_right or selector is None:
        return None
    return (parsed_number(parts[1]), selector, {}, condition)


def selector_or_none(parts):
    try:
        return parsed_parts(parts)
    except BadText:
        return None


def word_place(word):
    """What tells, compared, in which order words are set."""
    return (0, PROPERTIES.index(word), "") if is_property(word) else (1, 0, word)


def parsed_set(line, declarations):
    """The pair (word, value) of a line that can be set behind some declarations, or None."""
    parts = line.split(" ")
    if len(parts) != 3 or parts[0] != "set" or not is_property(parts[1]) and not is_own_name(parts[1]):
        return None
    words = list(declarations)
    if words and word_place(parts[1]) <= word_place(words[-1]):
        return None
    value = parsed_value(parts[2])
    return (parts[1], value) if is_let(parts[1], value) else None


def read_sheet(text):
    """The sheet that is written so."""
    if not isinstance(text, str):
        raise BadText(0)
    lines = text.split("\n")
    rules = []
    for index, line in enumerate(lines[:-1]):
        rule = parsed_rule(line)
        if rule is not None:
            rules.append(rule)
            continue
        told = parsed_set(line, rules[-1][2]) if rules else None
        if told is None:
            raise BadText(index)
        rules[-1][2][told[0]] = told[1]
    if lines[-1] != "":
        raise BadText(len(lines) - 1)
    return Sheet(rules)
