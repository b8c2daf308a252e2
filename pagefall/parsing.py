"""Parts of texts read: numbers, simples and values."""

from pagefall.kinds import is_word
from pagefall.selectors import is_simple

FIGURES = "0123456789"


def parsed_number(text):
    """The integer from 0 on that is written in figures, without noughts ahead, or None."""
    if text == "" or not all([sign in FIGURES for sign in text]) or text[0] == "0" and text != "0":
        return None
    number = 0
    for sign in text:
        number = 10 * number + FIGURES.index(sign)
    return number


def parsed_integer(text):
    """The integer that is written in figures, with a minus ahead if it is below 0, or None."""
    if text[:1] != "-":
        return parsed_number(text)
    number = parsed_number(text[1:])
    return None if number is None or number == 0 else -number


def parsed_place(text):
    """The pair of the numbers of a place, or None."""
    many, _, rest = text.partition(".")
    numbers = (parsed_number(many), parsed_number(rest))
    return None if None in numbers else numbers


def is_rising(words):
    return all([words[at - 1] < words[at] for at in range(1, len(words))])


def parsed_simple(text):
    """The simple that is written so, or None."""
    head, colon, tail = text.partition(":")
    place = parsed_place(tail) if colon != "" else None
    if colon != "" and place is None:
        return None
    head, lacking, lacks = head.partition("!")
    name, having, has = head.partition(".")
    has = has.split(".") if having != "" else []
    lacks = lacks.split("!") if lacking != "" else []
    simple = (None if name == "*" else name, has, lacks, place)
    return simple if is_simple(simple) and is_rising(has) and is_rising(lacks) else None


def parsed_marked(text):
    """The length in parts, or the size in hundredths, that is written so, or None."""
    number = parsed_number(text[:-1])
    if number is None or text[-1] not in ("p", "x"):
        return None
    return ("part" if text[-1] == "p" else "times", number)


def parsed_single(text):
    """The integer, pair of a mark and a number, or string that is written so, whatever is let."""
    number = parsed_integer(text)
    if number is not None:
        return number
    if is_word(text) or text == "as-parent":
        return text
    return parsed_marked(text) if text != "" else None


def parsed_pair(text):
    """The pair for a place from two texts with a comma between, or None."""
    length, _, number = text.partition(",")
    parts = (parsed_single(length), parsed_integer(number))
    return None if None in parts else parts


def parsed_plain(text):
    """The value that is no use and is written so, or None."""
    if text[:1] == "(" and text[-1:] == ")":
        return parsed_pair(text[1:-1])
    return parsed_single(text)


def parsed_value(text):
    """The value that is written so, whatever is let, or None."""
    if text[:4] != "use(" or text[-1:] != ")":
        return parsed_plain(text)
    name, comma, fallback = text[4:-1].partition(",")
    if comma == "":
        return ("use", name)
    value = parsed_plain(fallback)
    return None if value is None else ("use", name, value)
