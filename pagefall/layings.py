"""Runs laid in a room: words on lines, and floats beside them. Widths and the room are spans."""

from pagefall.spans import NOUGHT, span_less, span_of, span_share, span_sum
from pagefall.words import WordRows

HALF = (1, 2)


class Put:
    """A float that is put: near and far are the distances of its ends from the side at which it stands."""

    def __init__(self, number, side, width, near, top, foot):
        self.number = number
        self.side = side
        self.near = near
        self.far = span_sum(near, width)
        self.top = top
        self.foot = foot

    def stands_at(self, low, high):
        """Whether it stands at some heights from low up to high, this one not taken in."""
        return self.top < self.foot and self.top < high and low < self.foot

    def left_in(self, room):
        """Where it begins, from the left end of the room on."""
        return self.near if self.side == "left" else span_less(room, self.far)


class Ends:
    """How far the floats that stand at some heights go in from both sides, and the first ones that go so far."""

    def __init__(self, puts, watch):
        self.is_free = len(puts) == 0
        self.left = NOUGHT
        self.right = NOUGHT
        self.left_number = None
        self.right_number = None
        for put in puts:
            if put.side == "left" and (self.left_number is None or watch.is_under(self.left, put.far)):
                self.left, self.left_number = put.far, put.number
            elif put.side == "right" and (self.right_number is None or watch.is_under(self.right, put.far)):
                self.right, self.right_number = put.far, put.number

    def reach(self, side):
        return self.left if side == "left" else self.right

    def with_width(self, width):
        """How wide a room has to be for something between the ends."""
        return span_sum(span_sum(self.left, self.right), width)


class Line:
    """A line that is done: its words, its top and height, and the ends of the room over it."""

    def __init__(self, first, upto, top, height, ends):
        self.first = first
        self.upto = upto
        self.top = top
        self.height = height
        self.ends = ends


class Laying:
    """A run laid in a room: lines, those that have words, and puts, its floats, each with its reason.

    floats are the triples (side, width, height) of what is met; all that is asked of widths is asked of a watch.
    """

    def __init__(self, met, floats, room, watch):
        self.rows = WordRows(met.words)
        self.room = room
        self.watch = watch
        self.lines = []
        self.puts = []
        self.waiting = []
        self.reasons = []
        self.top = 0
        self.first = 0
        self.upto = 0
        for word, number in met.things:
            if number is None:
                self.take_word(word)
            else:
                self.take_float(floats[number])
        self.end_line()

    def ends_of(self, puts):
        return Ends(puts, self.watch)

    def ends_over(self, low, high):
        return self.ends_of([put for put in self.puts if put.stands_at(low, high)])

    def ends_at(self, top):
        """The ends at a single height: all tops and feet are integers."""
        return self.ends_over(top, top + 1)

    def fits_between(self, width, ends):
        return self.watch.is_upto(ends.with_width(width), self.room)

    def fits_at(self, width, ends):
        """Whether something has room there, or nothing else stands there."""
        return ends.is_free or self.fits_between(width, ends)

    def row_width(self, first, upto):
        """How wide the row of the words from a first one up to another is, as a span."""
        return span_of(self.rows.width_of(first, upto))

    def next_foot(self, top):
        """The least foot of a float that is below a top."""
        return min([put.foot for put in self.puts if put.foot > top])

    def take_word(self, number):
        if self.first < self.upto:
            height = self.rows.height_of(self.first, number + 1)
            ends = self.ends_over(self.top, self.top + height)
            if self.fits_between(self.row_width(self.first, number + 1), ends):
                self.upto = number + 1
                return
            self.end_line()
        height = self.rows.words[number].height
        width = self.row_width(number, number + 1)
        while not self.fits_at(width, self.ends_over(self.top, self.top + height)):
            self.top = self.next_foot(self.top)
        self.upto = number + 1

    def end_line(self):
        """Put those that wait below the line, and begin the next one."""
        if self.first < self.upto:
            height = self.rows.height_of(self.first, self.upto)
            ends = self.ends_over(self.top, self.top + height)
            self.lines.append(Line(self.first, self.upto, self.top, height, ends))
            self.top += height
        for side, width, height in self.waiting:
            self.put_below(side, width, height)
        self.waiting = []
        self.first = self.upto

    def put_below(self, side, width, height):
        """Put a float that has waited at the least top that has room for it."""
        top = max([self.top] + [put.top for put in self.puts[-1:]])
        ends = self.ends_at(top)
        while not self.fits_at(width, ends):
            self.reasons[len(self.puts)][1].append((top, ends.left_number, ends.right_number))
            top = self.next_foot(top)
            ends = self.ends_at(top)
        self.puts.append(self.put_at(side, width, height, top))

    def put_at(self, side, width, height, top):
        return Put(len(self.puts), side, width, self.ends_at(top).reach(side), top, top + height)

    def take_float(self, thing):
        side, width, height = thing
        reason = self.reason_to_wait(side, width, height)
        self.reasons.append((reason, []))
        if reason is None:
            self.puts.append(self.put_at(side, width, height, self.top))
        else:
            self.waiting.append(thing)

    def reason_to_wait(self, side, width, height):
        """The first reason for which a float cannot go beside the line, or None."""
        if self.waiting:
            return ("waits", len(self.puts))
        if self.puts and self.puts[-1].top > self.top:
            return ("top", len(self.puts) - 1)
        ends = self.ends_at(self.top)
        if not self.fits_at(width, ends):
            return ("room", ends.left_number, ends.right_number)
        return None if self.leaves_line(self.put_at(side, width, height, self.top)) else ("line",)

    def leaves_line(self, put):
        """Whether the line's words have room over its height beside a float that is put at its top."""
        if self.first == self.upto:
            return True
        foot = self.top + self.rows.height_of(self.first, self.upto)
        ends = self.ends_of([other for other in self.puts + [put] if other.stands_at(self.top, foot)])
        return self.fits_between(self.row_width(self.first, self.upto), ends)

    def line_left(self, line, align):
        """Where a line begins, from the left end of the room on."""
        left = line.ends.left
        spare = span_less(self.room, line.ends.with_width(self.row_width(line.first, line.upto)))
        if align == "left" or not self.watch.is_upto(NOUGHT, spare):
            return left
        return span_sum(left, spare if align == "right" else span_share(spare, HALF))

    def whole_height(self):
        """The greater of the last line's foot and the lowest foot of a float."""
        return max([self.top] + [put.foot for put in self.puts])

    def shape(self):
        lines = tuple([(line.first, line.top) for line in self.lines])
        return (lines, tuple([put.top for put in self.puts]))
