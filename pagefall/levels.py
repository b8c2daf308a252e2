"""Items at one level: the sizes by which they fill what there is."""

from pagefall.forms import worth_at
from pagefall.pieces import joined_pieces
from pagefall.ratios import ZERO, ascending, greater_of, is_at_most, is_below, lesser_of, minus, plus, sum_of, through
from pagefall.ratios import times


def bounded(size, item):
    """A size, at least the item's least, at most its most."""
    _, _, _, least, most = item
    size = greater_of(size, (least, 1))
    return size if most is None else lesser_of(size, (most, 1))


def size_at_level(item, level):
    base, grow, shrink, _, _ = item
    rate = shrink if level[0] < 0 else grow
    return bounded(plus(base, times(level, (rate, 1))), item)


def turns_of(item):
    """The levels at which an item comes to a bound."""
    base, grow, shrink, least, most = item
    spans = [minus((bound, 1), base) for bound in (least, most) if bound is not None]
    turns = [through(span, (grow, 1)) for span in spans if grow > 0 and span[0] > 0]
    return turns + [through(span, (shrink, 1)) for span in spans if shrink > 0 and span[0] < 0]


class Levels:
    """Items with the levels, ascending, between which each size goes along one form.

    Below the first one and, where growth is 0, above the last one no size changes.
    """

    def __init__(self, items):
        self.row = items
        self.levels = ascending([ZERO] + [turn for item in items for turn in turns_of(item)])
        self.sizes = [self.sizes_by(level) for level in self.levels]
        self.sums = [sum_of(sizes) for sizes in self.sizes]
        self.rates = [item[1] if item[4] is None else 0 for item in items]
        self.growth = sum(self.rates)

    def sizes_by(self, level):
        return [size_at_level(item, level) for item in self.row]

    def level_for(self, total):
        """A level at which the sizes have a sum, or come as near to it as they can."""
        last = len(self.levels) - 1
        if is_at_most(self.sums[last], total):
            over = minus(total, self.sums[last])
            return plus(self.levels[last], through(over, (self.growth, 1))) if self.growth > 0 else self.levels[last]
        for at in range(last):
            if is_at_most(self.sums[at], total) and is_below(total, self.sums[at + 1]):
                share = through(minus(total, self.sums[at]), minus(self.sums[at + 1], self.sums[at]))
                return plus(self.levels[at], times(share, minus(self.levels[at + 1], self.levels[at])))
        return self.levels[0]

    def sizes_for(self, total):
        return self.sizes_by(self.level_for(total))

    def rates_behind(self, at):
        """How much of what is there more each item gets behind a level."""
        if at < len(self.levels) - 1:
            more = minus(self.sums[at + 1], self.sums[at])
            return [through(minus(high, low), more) for low, high in zip(self.sizes[at], self.sizes[at + 1])]
        return [(rate, self.growth) if self.growth > 0 else ZERO for rate in self.rates]

    def forms_behind(self, at, apart):
        """The forms, in a room of which so much stands apart, of the sizes behind a level."""
        forms = []
        start = plus(self.sums[at], apart)
        for size, rate in zip(self.sizes[at], self.rates_behind(at)):
            share = plus(rate, ZERO)
            forms.append((minus(size, times(share, start)), share))
        return tuple(forms)

    def pieces(self, apart):
        """The pieces of the forms in all rooms, of which so much stands apart."""
        rows = [(ZERO, plus(self.sums[0], apart), tuple([(size, ZERO) for size in self.sizes[0]]))]
        last = len(self.levels) - 1
        for at in range(last):
            if self.sums[at] != self.sums[at + 1]:
                rows.append((plus(self.sums[at], apart), plus(self.sums[at + 1], apart), self.forms_behind(at, apart)))
        rows.append((plus(self.sums[last], apart), None, self.forms_behind(last, apart)))
        return joined_pieces([row for row in rows if row[0] != row[1]])


def first_room(pieces, index, size):
    """The least room in which an item has a size, or None."""
    for low, high, forms in pieces:
        form = forms[index]
        if is_at_most(size, worth_at(form, low)):
            return low
        if form[1][0] > 0:
            room = through(minus(size, form[0]), form[1])
            if high is None or is_at_most(room, high):
                return room
    return None
