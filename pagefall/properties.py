"""Properties and own names, the values let for them, and their first worths."""

from pagefall.kinds import is_integer, is_list, is_whole, is_word

PROPERTIES = (
    "show", "side", "width", "base", "height", "least", "most", "mleft", "mright", "pleft", "pright", "mtop", "mbottom",
    "ptop", "pbottom", "grow", "gap", "shrink", "span", "wrap", "size", "align", "layer", "at", "fill", "ink",
)
FIRSTS = {
    "show": "line", "side": "none", "width": "auto", "base": "auto", "height": "auto", "least": 0, "most": "none",
    "mleft": 0, "mright": 0, "pleft": 0, "pright": 0, "mtop": 0, "mbottom": 0, "ptop": 0, "pbottom": 0, "grow": 0,
    "gap": 0, "shrink": 1, "span": 1, "wrap": "no", "size": 10, "align": "left", "layer": 0, "at": "none",
    "fill": "none", "ink": "x",
}
HANDED_DOWN = ("size", "align", "ink")
SHOWS = ("block", "line", "row", "table", "none")
SIDES = ("none", "left", "right")
WRAPS = ("no", "yes")
ALIGNS = ("left", "mid", "right")


def is_show(value):
    return value in SHOWS


def is_side(value):
    return value in SIDES


def is_wrap(value):
    return value in WRAPS


def is_align(value):
    return value in ALIGNS


def is_marked(value, word):
    """Whether a value is a pair of this string and something."""
    return is_list(value) and len(value) == 2 and value[0] == word


def is_number(value):
    return is_whole(value)


def is_layer(value):
    return is_integer(value)


def is_length(value):
    return is_number(value) or is_marked(value, "part") and is_number(value[1])


def is_room_length(value):
    return value == "auto" or is_length(value)


def is_height(value):
    return value == "auto" or is_number(value)


def is_most(value):
    return value == "none" or is_number(value)


def is_positive(value):
    return is_integer(value) and value >= 1


def is_size(value):
    return is_positive(value) or is_marked(value, "times") and is_positive(value[1])


def is_spot(value):
    if value == "none":
        return True
    return is_list(value) and len(value) == 2 and is_length(value[0]) and is_integer(value[1])


def is_ink(value):
    return is_word(value) and len(value) == 1


def is_fill(value):
    return value == "none" or is_ink(value)


LET = {
    "show": is_show, "side": is_side, "width": is_room_length, "base": is_room_length, "height": is_height,
    "least": is_number, "most": is_most, "mleft": is_room_length, "mright": is_room_length, "pleft": is_length,
    "pright": is_length, "mtop": is_number, "mbottom": is_number, "ptop": is_number, "pbottom": is_number,
    "grow": is_number, "gap": is_number, "shrink": is_number, "span": is_positive, "wrap": is_wrap, "size": is_size,
    "align": is_align, "layer": is_layer, "at": is_spot, "fill": is_fill, "ink": is_ink,
}


def is_property(thing):
    return isinstance(thing, str) and thing in LET


def is_own_name(thing):
    return isinstance(thing, str) and thing[:2] == "--" and is_word(thing[2:])


def table_lets(word, value):
    """Whether the table lets a value for a property, or, for an own name, for some property."""
    if is_own_name(word):
        return any([table_lets(other, value) for other in PROPERTIES])
    lets = LET[word]
    return lets(value)


def is_use(value):
    """Whether a value that is let is one of both uses."""
    return is_list(value) and value[0] == "use"


def is_use_for(word, value):
    """Whether any object is a use of an own name, its fallback one that is let for a word."""
    if not is_list(value) or len(value) not in (2, 3) or not is_use(value) or not is_own_name(value[1]):
        return False
    return len(value) == 2 or table_lets(word, value[2])


def is_let(word, value):
    """Whether any object is let for a property or an own name."""
    if table_lets(word, value) or is_use_for(word, value):
        return True
    return not is_own_name(word) and (value == "as-parent" or value == "start")


def is_worth(word, value):
    """Whether any object is a value that the table lets for a property and that can be its worth."""
    return table_lets(word, value) and not is_marked(value, "times")


def told_value(value):
    """A value that is let, tuples throughout."""
    return tuple([told_value(part) for part in value]) if is_list(value) else value


def first_worth(word, is_root):
    return "block" if is_root and word == "show" else FIRSTS[word]


def ordered_words(words):
    """Properties in their order, own names behind them, ascending."""
    listed = [word for word in PROPERTIES if word in words]
    return listed + sorted([word for word in words if is_own_name(word)])
