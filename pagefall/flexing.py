"""Items of a row whose bases, bounds and room are spans: the sizes at a level, as rows of items have them.

The level and who stands at a bound are looked for by answers on which nothing hangs; then they are shown to be right by
answers that are kept.
"""

from pagefall.spans import NOUGHT, span_less, span_share, span_sum, sum_of_spans

STILL = "still"
AT_START = "start"
AT_END = "end"
FREE = "free"


class Bar:
    """An item on its way from level 0 up or down: it goes by so much a level, from a first bound to a last one."""

    def __init__(self, item, is_growing):
        base, grow, shrink, least, most = item
        self.base = base
        self.rate = grow if is_growing else -shrink
        self.start, self.end = (least, most) if is_growing else (most, least)
        self.leaves = self.level_of(self.start)
        self.comes = self.level_of(self.end)

    def level_of(self, bound):
        """How far from level 0 the item comes to a bound, None if it never does."""
        if bound is None or self.rate == 0:
            return None
        way = span_less(bound, self.base)
        return span_share(way if self.rate > 0 else span_less(NOUGHT, way), (1, abs(self.rate)))

    def at_level(self, level):
        """The size, without bounds, so far from level 0."""
        return span_sum(self.base, span_share(level, (self.rate, 1)))


def bounded_span(size, item, watch):
    """A size, at most the item's most, at least its least."""
    _, _, _, least, most = item
    if most is not None:
        size = watch.lesser_of(size, most)
    return watch.greater_of(size, least)


def whole_base(item, watch):
    """The size at level 0."""
    return bounded_span(item[0], item, watch)


class Flexing:
    """The sizes of items whose sum is a total, or as near to it as they can come."""

    def __init__(self, items, total, watch):
        self.row = items
        self.total = total
        self.watch = watch
        level_sum = sum_of_spans([self.seen_bounded(item[0], item) for item in items])
        self.is_growing = watch.seems_upto(level_sum, total)
        self.bars = [Bar(item, self.is_growing) for item in items]
        self.levels = self.turns()
        self.sizes = self.told_sizes(self.level_below())

    def seen_bounded(self, size, item):
        """A size within the item's bounds, by answers on which nothing hangs."""
        _, _, _, least, most = item
        if most is not None and self.watch.seems_upto(most, size):
            size = most
        return least if self.watch.seems_upto(size, least) else size

    def turns(self):
        """The levels, ascending from 0 on, at which some item leaves a bound or comes to one."""
        levels = [NOUGHT]
        for bar in self.bars:
            for level in (bar.leaves, bar.comes):
                if level is not None and not self.watch.seems_upto(level, NOUGHT):
                    at = len(levels)
                    while self.watch.seems_upto(level, levels[at - 1]):
                        at -= 1
                    levels.insert(at, level)
        return levels

    def is_reached(self, level):
        """Whether the sizes at a level are not yet on the other side of the total."""
        whole = sum_of_spans([self.seen_bounded(bar.at_level(level), item) for bar, item in zip(self.bars, self.row)])
        one, other = (whole, self.total) if self.is_growing else (self.total, whole)
        return self.watch.seems_upto(one, other)

    def level_below(self):
        """The number of the last level that is reached."""
        low, high = 0, len(self.levels)
        while high - low > 1:
            mid = (low + high) // 2
            if self.is_reached(self.levels[mid]):
                low = mid
            else:
                high = mid
        return low

    def states_behind(self, number):
        """Where the items stand right behind a level."""
        level = self.levels[number]
        states = []
        for bar in self.bars:
            if bar.rate == 0:
                states.append(STILL)
            elif bar.leaves is not None and not self.watch.seems_upto(bar.leaves, level):
                states.append(AT_START)
            elif bar.comes is not None and self.watch.seems_upto(bar.comes, level):
                states.append(AT_END)
            else:
                states.append(FREE)
        return states

    def told_sizes(self, number):
        """The sizes, if the level is not above the next one behind one with a number."""
        states = self.states_behind(number)
        rate = sum([abs(bar.rate) for bar, state in zip(self.bars, states) if state == FREE])
        still = []
        for bar, item, state in zip(self.bars, self.row, states):
            if state == STILL:
                still.append(whole_base(item, self.watch))
            elif state == FREE:
                still.append(bar.base)
            else:
                still.append(bar.start if state == AT_START else bar.end)
        spare = span_less(self.total, sum_of_spans(still))
        if rate == 0:
            self.show_end(spare)
            return still
        level = span_share(spare if self.is_growing else span_less(NOUGHT, spare), (1, rate))
        self.show_level(level, states)
        return [self.size_of(bar, size, state, level) for bar, size, state in zip(self.bars, still, states)]

    def size_of(self, bar, size, state, level):
        return bar.at_level(level) if state == FREE else size

    def show_end(self, spare):
        """Show that the sizes can go no further."""
        if self.is_growing:
            self.watch.is_upto(NOUGHT, spare)
        else:
            self.watch.is_upto(spare, NOUGHT)

    def show_level(self, level, states):
        """Show that the items stand so at a level."""
        self.watch.is_upto(NOUGHT, level)
        for bar, state in zip(self.bars, states):
            if state == AT_START:
                self.watch.is_upto(level, bar.leaves)
            elif bar.leaves is not None:
                self.watch.is_upto(bar.leaves, level)
            if state == AT_END:
                self.watch.is_upto(bar.comes, level)
            elif bar.comes is not None:
                self.watch.is_upto(level, bar.comes)


def flexed_sizes(items, total, watch):
    """The sizes of items (base, grow, shrink, least, most), all but grow and shrink spans, most None for none."""
    return Flexing(items, total, watch).sizes
