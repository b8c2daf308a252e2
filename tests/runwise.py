"""Sections 10 and 11 in the plainest way: words, lines and floats one by one, and runs that look thrown."""

from fractions import Fraction


def some_signs(dice, many):
    return "".join(dice.pick("ab1-. " if dice.throw(2) else "ab ") for _ in range(dice.throw(many)))


def some_texts(dice, many, sizes=(1, 2, 3, 5), signs=9):
    return [(dice.pick(sizes), some_signs(dice, signs)) for _ in range(many)]


def some_run(dice, many, floats, sizes=(1, 2, 3), signs=7, most=14):
    run = some_texts(dice, many, sizes, signs)
    for _ in range(floats):
        run.insert(dice.throw(len(run) + 1), (dice.pick(["left", "right"]), dice.throw(most), dice.throw(most + 4)))
    return run


def plain_words(run):
    """The words (at, width, height, gap), and what is met: ("word", number) and ("float", thing)."""
    signs = [(size_or_side, sign, (index, number)) for index, thing in enumerate(run) if len(thing) == 2
             for size_or_side, sign, number in [(thing[0], sign, number) for number, sign in enumerate(thing[1])]]
    words = []
    blanks = []
    for size, sign, at in signs:
        if sign == " ":
            blanks.append(size)
        elif words and not blanks:
            words[-1][1] += size
            words[-1][2] = max(words[-1][2], 2 * size)
            words[-1].append(at)
        else:
            words.append([at, size, 2 * size, blanks[0] if blanks and words else 0, at])
            blanks = []
        if sign != " ":
            blanks = []
    met = []
    floats = [(index, thing) for index, thing in enumerate(run) if len(thing) == 3]
    for number, word in enumerate(words):
        last = word[-1]
        # A float ahead of the last sign of a word is met ahead of it.
        while floats and floats[0][0] < last[0]:
            met.append(("float", floats.pop(0)[1]))
        met.append(("word", number))
    return [tuple(word[:4]) for word in words], met + [("float", thing) for _, thing in floats]


def row_width(words, first, upto):
    return sum(word[1] for word in words[first:upto]) + sum(word[3] for word in words[first + 1:upto])


def row_height(words, first, upto):
    return max(word[2] for word in words[first:upto])


def all_breakings(words, room, first=0):
    """All ways to break the words from a first one on into lines that are right."""
    if first == len(words):
        yield []
    for upto in range(first + 1, len(words) + 1):
        if upto == first + 1 or row_width(words, first, upto) <= room:
            for rest in all_breakings(words, room, upto):
                yield [(first, upto)] + rest


class PlainLaying:
    """11.3, word by word and float by float, each room from all floats that are put."""

    def __init__(self, run, room):
        self.words, met = plain_words(run)
        self.room = Fraction(room)
        self.floats = []
        self.waiting = []
        self.lines = []
        self.told = []
        self.top = 0
        self.line = []
        for what, thing in met:
            if what == "word":
                self.word(thing)
            else:
                self.float(thing)
        self.done()

    def ends(self, low, high):
        """Left and right end of the room at the heights from low up to high, and what stands there."""
        there = [put for put in self.floats if put["top"] < put["foot"] and any(put["top"] <= y < put["foot"] for y in range(low, high))]
        left = max([put["right"] for put in there if put["side"] == "left"], default=Fraction(0))
        right = min([put["left"] for put in there if put["side"] == "right"], default=self.room)
        return left, right, there

    def width_at(self, low, high):
        left, right, _ = self.ends(low, high)
        return right - left

    def row(self, line):
        return row_width(self.words, line[0], line[-1] + 1)

    def height(self, line):
        return max(self.words[number][2] for number in line)

    def fits(self, line):
        return self.row(line) <= self.width_at(self.top, self.top + self.height(line))

    def word(self, number):
        if self.line and not self.fits(self.line + [number]):
            self.done()
        if not self.line:
            while not self.fits([number]) and self.ends(self.top, self.top + self.height([number]))[2]:
                self.top = min(put["foot"] for put in self.floats if put["foot"] > self.top)
        self.line.append(number)

    def put(self, thing, top):
        side, width, height = thing
        left, right, _ = self.ends(top, top + 1)
        begin = left if side == "left" else right - width
        self.floats.append({"side": side, "left": begin, "right": begin + width, "top": top, "foot": top + height})

    def has_room(self, width, top):
        return width <= self.width_at(top, top + 1) or not self.ends(top, top + 1)[2]

    def blockers(self, top):
        """The numbers of the first floats that have both ends of the room at a top."""
        left, right, there = self.ends(top, top + 1)
        lefts = [number for number, put in enumerate(self.floats) if put in there and put["side"] == "left" and put["right"] == left]
        rights = [number for number, put in enumerate(self.floats) if put in there and put["side"] == "right" and put["left"] == right]
        return (lefts or [None])[0], (rights or [None])[0]

    def float(self, thing):
        reason = self.reason(thing)
        self.told.append((reason, []))
        if reason is None:
            self.put(thing, self.top)
        else:
            self.waiting.append(thing)

    def reason(self, thing):
        if self.waiting:
            return ("waits", len(self.floats))
        if any(put["top"] > self.top for put in self.floats):
            return ("top", len(self.floats) - 1)
        if not self.has_room(thing[1], self.top):
            return ("room",) + self.blockers(self.top)
        if self.line:
            self.put(thing, self.top)
            fits = self.fits(self.line)
            self.floats.pop()
            if not fits:
                return ("line",)
        return None

    def done(self):
        foot = self.top + (self.height(self.line) if self.line else 0)
        if self.line:
            left, right, _ = self.ends(self.top, foot)
            self.lines.append((self.line[0], self.line[-1] + 1, left, right, self.top, self.row(self.line), foot - self.top))
        for thing in self.waiting:
            top = max([foot] + [put["top"] for put in self.floats[-1:]])
            while not self.has_room(thing[1], top):
                self.told[len(self.floats)][1].append((top,) + self.blockers(top))
                top = min(put["foot"] for put in self.floats if put["foot"] > top)
            self.put(thing, top)
        self.waiting = []
        self.line = []
        self.top = foot

    def lines_told(self, align):
        rows = []
        for first, upto, left, right, top, width, height in self.lines:
            begin = left
            if width <= right - left and align != "left":
                begin = right - width if align == "right" else (left + right - width) / 2
            rows.append((first, upto, (begin.numerator, begin.denominator), top, width, height))
        return rows

    def floats_told(self):
        return [((put["left"].numerator, put["left"].denominator), put["top"]) for put in self.floats]

    def whole_height(self):
        return max([self.top] + [put["foot"] for put in self.floats])

    def shape(self):
        return (tuple((line[0], line[4]) for line in self.lines), tuple(put["top"] for put in self.floats))
