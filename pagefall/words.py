"""Runs of texts and floats, and the words in them."""

from pagefall.kinds import SIGNS, is_list, is_whole, is_width
from pagefall.refusals import BadRoom, BadRun

FLOAT_SIDES = ("left", "right")


def is_run_text(thing):
    """Whether a thing is a pair of a size and signs, perhaps none."""
    if not is_list(thing) or len(thing) != 2 or not is_whole(thing[0]) or thing[0] == 0:
        return False
    return isinstance(thing[1], str) and all([sign in SIGNS for sign in thing[1]])


def is_run_float(thing):
    if not is_list(thing) or len(thing) != 3 or not isinstance(thing[0], str) or thing[0] not in FLOAT_SIDES:
        return False
    return is_whole(thing[1]) and is_whole(thing[2])


def first_wrong(run):
    """The index of the first thing of a run that is none (0 for no list), or None."""
    if not is_list(run):
        return 0
    wrong = [index for index, thing in enumerate(run) if not is_run_text(thing) and not is_run_float(thing)]
    return wrong[0] if wrong else None


def is_run(thing):
    """Whether a thing is a list of texts and floats."""
    return first_wrong(thing) is None


def check_run(run):
    wrong = first_wrong(run)
    if wrong is not None:
        raise BadRun(wrong)


def told_room(room):
    """A room as a fraction, an integer meaning so many."""
    if is_whole(room):
        return (room, 1)
    if not is_width(room):
        raise BadRoom(room)
    return tuple(room)


class Word:
    """A word: where its first sign is, its width and height, and the gap ahead of it.

    signs are what is read; parts are triples (number of a text, begin, end), from the word's left end on.
    """

    def __init__(self, at, gap):
        self.at = at
        self.width = 0
        self.height = 0
        self.gap = gap
        self.signs = []
        self.parts = []

    def take_sign(self, index, size, sign):
        begin = self.width
        if self.parts and self.parts[-1][0] == index:
            _, begin, _ = self.parts.pop()
        self.width += size
        self.height = max(self.height, 2 * size)
        self.signs.append(sign)
        self.parts.append((index, begin, self.width))

    def told(self):
        return (self.at, self.width, self.height, self.gap)

    def as_read(self):
        return "".join(self.signs)


class Met:
    """A right run as it is met: its words, its floats, and its things in order.

    A thing is a pair, of the number of a word and None or of None and that of a float; a float within a word comes
    ahead of it.
    """

    def __init__(self, run):
        self.words = []
        self.floats = []
        self.things = []
        self.word = None
        self.gap = 0
        self.held = []
        for index, thing in enumerate(run):
            if len(thing) == 3:
                self.take_float(tuple(thing))
            else:
                for number, sign in enumerate(thing[1]):
                    self.take_sign((index, number), thing[0], sign)
        self.end_word()

    def take_float(self, thing):
        """Take a float; whether it stands within a word is known behind it."""
        self.held.append((None, len(self.floats)))
        self.floats.append(thing)
        if self.word is None:
            self.end_word()

    def end_word(self):
        self.things.extend(self.held)
        self.held = []
        self.word = None

    def take_sign(self, at, size, sign):
        if sign == " ":
            self.end_word()
            self.gap = self.gap or size
            return
        if self.word is None:
            self.word = Word(at, self.gap if self.words else 0)
            self.things.append((len(self.words), None))
            self.words.append(self.word)
        elif self.held:
            begun = self.things.pop()
            self.things.extend(self.held + [begun])
            self.held = []
        self.gap = 0
        self.word.take_sign(at[0], size, sign)


class WordRows:
    """The rows of the words of a run: how wide and how high each is."""

    def __init__(self, words):
        self.words = words
        self.ends = [0]
        for word in words:
            self.ends.append(self.ends[-1] + word.gap + word.width)

    def width_of(self, first, upto):
        """How wide the row of the words from a first one up to another is, this one not taken in."""
        return self.ends[upto] - self.ends[first] - self.words[first].gap

    def height_of(self, first, upto):
        return max([word.height for word in self.words[first:upto]])


def words_of(run):
    """The words of a run: where each begins, its width and height, and the gap ahead of it."""
    check_run(run)
    return [word.told() for word in Met(run).words]
