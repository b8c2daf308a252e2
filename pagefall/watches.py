"""Watches: spans are compared at a width, and it is kept up to which width all answers hold.

Each answer holds from a width on up to one, so all widths are parted into few stretches with the same answers.
"""

from pagefall.ratios import is_at_most, is_below, lowest


def gap_between(one, other):
    """The pair (top, slope) of the other span less the one, times a number above 0."""
    top = other[0] * one[2] - one[0] * other[2]
    return (top, other[1] * one[2] - one[1] * other[2])


class Watch:
    """Answers at a width, or right behind it; they hold up to end (None: without end), itself too if has_end."""

    def __init__(self, width, is_behind=False):
        self.width = width
        self.is_behind = is_behind
        self.end = None
        self.has_end = False

    def sign_of(self, gap):
        """A number of the sign that a gap has here."""
        here = gap[0] * self.width[1] + gap[1] * self.width[0]
        return gap[1] if here == 0 and self.is_behind else here

    def seems_upto(self, one, other):
        """Whether a span is at most another one, an answer on which nothing hangs."""
        return self.sign_of(gap_between(one, other)) >= 0

    def is_upto(self, one, other):
        """Whether a span is at most another one."""
        gap = gap_between(one, other)
        answer = self.sign_of(gap) >= 0
        if answer and gap[1] < 0:
            self.take_end((gap[0], -gap[1]), True)
        elif not answer and gap[1] > 0:
            self.take_end((-gap[0], gap[1]), False)
        return answer

    def is_under(self, one, other):
        """Whether a span is below another one."""
        return not self.is_upto(other, one)

    def take_end(self, end, has_end):
        """Let the answers hold up to a width at most."""
        if self.end is None or is_below(end, self.end):
            self.end = lowest(end[0], end[1])
            self.has_end = has_end
        elif is_at_most(end, self.end):
            self.has_end = self.has_end and has_end

    def lesser_of(self, one, other):
        return one if self.is_upto(one, other) else other

    def greater_of(self, one, other):
        return other if self.is_upto(one, other) else one


def still_watch():
    """A watch for spans that hang on no width."""
    return Watch((0, 1))


def cells_in(stretch, work):
    """The pairs of a stretch and what a function tells of a watch there, one behind another in a stretch.

    Each is the longest one, from where the last one ended, with the same answers.
    """
    low, is_in, high, has_high = stretch
    cells = []
    watch = Watch(low, not is_in)
    told = work(watch)
    while not reaches(watch, high, has_high):
        cells.append(((watch.width, not watch.is_behind, watch.end, watch.has_end), told))
        watch = Watch(watch.end, watch.has_end)
        told = work(watch)
    return cells + [((watch.width, not watch.is_behind, high, has_high), told)]


def reaches(watch, high, has_high):
    """Whether the answers of a watch hold up to the end of a stretch (None: without end)."""
    if watch.end is None or high is None:
        return watch.end is None
    return is_below(high, watch.end) or watch.end == high and (watch.has_end or not has_high)


def joined_cells(cells, still):
    """The fewest pieces, each as long as can be, of cells that stand one behind another from a width on.

    What is told in a cell are forms, which still(told, width) makes those of their worths at a width.
    """
    pieces = []
    for stretch, told in cells:
        low, is_in, high, _ = stretch
        if low == high:
            told = still(told, low)
        if not pieces:
            pieces.append((stretch, told))
            continue
        last, last_told = pieces[-1]
        if last[0] == last[2] and still(told, low) == last_told:
            pieces[-1] = (last[:2] + stretch[2:], told)
        elif low != high and last_told == told:
            pieces[-1] = (last[:2] + stretch[2:], told)
        elif is_in and still(last_told, low) == still(told, low):
            # Where both tell the same the one ahead goes as far as it can.
            pieces[-1] = (last[:2] + (low, True), last_told)
            if low != high:
                pieces.append(((low, False) + stretch[2:], told))
        else:
            pieces.append((stretch, told))
    return pieces
