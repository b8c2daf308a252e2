"""What words, integers, lists, paths and fractions are: asked of any object."""

SIGNS = "abcdefghijklmnopqrstuvwxyz0123456789-. "
LONGEST_WORD = 8


def is_list(thing):
    return isinstance(thing, (list, tuple))


def is_integer(thing):
    return isinstance(thing, int) and not isinstance(thing, bool)


def is_whole(thing):
    """Whether a thing is an integer from 0 on."""
    return is_integer(thing) and thing >= 0


def is_word(thing):
    if not isinstance(thing, str) or not 1 <= len(thing) <= LONGEST_WORD:
        return False
    return thing.isascii() and thing.isalpha() and thing.islower()


def is_words(thing):
    """Whether a thing is a list of unlike words."""
    return is_list(thing) and all([is_word(word) for word in thing]) and len(set(thing)) == len(thing)


def is_text(thing):
    return isinstance(thing, str) and thing != "" and all([sign in SIGNS for sign in thing])


def is_path(thing):
    """Whether a thing is a tuple of integers from 0 on."""
    return is_list(thing) and all([is_whole(number) for number in thing])


def is_width(thing):
    """Whether a thing is a fraction from 0 on."""
    return is_list(thing) and len(thing) == 2 and is_whole(thing[0]) and is_whole(thing[1]) and thing[1] > 0
