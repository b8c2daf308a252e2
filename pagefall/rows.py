"""Rows of items that grow and shrink along."""

from pagefall.errors import BadNumber
from pagefall.kinds import is_integer, is_list, is_whole, is_width
from pagefall.levels import Levels, bounded, first_room
from pagefall.pieces import check_room, parted_at
from pagefall.ratios import ZERO, is_at_most, is_below, is_fraction, lesser_of, minus, plus, sum_of, told_fraction
from pagefall.refusals import BadGap, BadItems, BadSize, NoItem, UnlikeItems


def is_item(thing):
    if not is_list(thing) or len(thing) != 5:
        return False
    base, grow, shrink, least, most = thing
    if not is_width(base) or not all([is_whole(number) for number in (grow, shrink, least)]):
        return False
    return most is None or is_integer(most) and most >= least


def check_items(items):
    if not is_list(items) or len(items) == 0:
        raise BadItems(0)
    for index, item in enumerate(items):
        if not is_item(item):
            raise BadItems(index)


class Row:
    """Items (base, grow, shrink, least, most) with a gap between; it never changes."""

    def __init__(self, items, gap=0):
        check_items(items)
        if not is_whole(gap):
            raise BadGap(gap)
        self._items = [(told_fraction(item[0]),) + tuple(item[1:]) for item in items]
        self._gap = gap
        self._levels = Levels(self._items)

    def __eq__(self, other):
        return isinstance(other, Row) and self._items == other._items and self._gap == other._gap

    def all_items(self):
        return list(self._items)

    def own_gap(self):
        return self._gap

    def sizes_at(self, room):
        """The sizes in a room."""
        return self._levels.sizes_for(self._given_at(room))

    def left_at(self, room):
        """What is left of a room, below 0 if the row sticks out."""
        return minus(self._given_at(room), sum_of(self.sizes_at(room)))

    def level_at(self, room):
        """A level that gives the sizes in a room."""
        return self._levels.level_for(self._given_at(room))

    def is_level(self, room, thing):
        """Whether any object is a level that gives the sizes in a room."""
        sizes = self.sizes_at(room)
        return is_fraction(thing) and self._levels.sizes_by(told_fraction(thing)) == sizes

    def all_pieces(self):
        """The rows of a room, the one up to which, and the forms of the sizes there."""
        return self._levels.pieces(self._apart())

    def room_for(self, index, size):
        """The least room from which on an item has at least a size, or None."""
        if not is_whole(index) or index >= len(self._items):
            raise NoItem(index)
        if not is_fraction(size):
            raise BadSize(size)
        return first_room(self.all_pieces(), index, size)

    def both_ends(self):
        """The rooms from which on nothing sticks out, and up to which nothing is left over (None: always)."""
        sums = self._levels.sums
        return (plus(sums[0], self._apart()), None if self._levels.growth > 0 else plus(sums[-1], self._apart()))

    def needless_bounds(self):
        """The bounds of which each alone could be left out."""
        found = []
        for index, (base, grow, shrink, least, most) in enumerate(self._items):
            if least > 0 and shrink == 0 and is_at_most((least, 1), base):
                found.append((index, "least"))
            if most is not None and grow == 0 and is_at_most(base, (most, 1)):
                found.append((index, "most"))
        return found

    def lines_at(self, room):
        """The lists of the numbers of the items on each line, if the row wraps."""
        check_room(room)
        return self._lines_in(room)

    def wrapped_sizes(self, room):
        """The sizes, if the row wraps."""
        sizes = []
        for numbers in self.lines_at(room):
            line = Row([self._items[number] for number in numbers], self._gap)
            sizes.extend(line.sizes_at(room))
        return sizes

    def all_breaks(self):
        """The pairs of a room and the lines from it on, up to the next one's."""
        breaks = []
        room = ZERO
        while room is not None:
            lines = self._lines_in(room)
            breaks.append((room, lines))
            room = self._next_break(lines)
        return breaks

    def room_for_lines(self, many):
        """The least room with at most so many lines."""
        if not is_whole(many) or many == 0:
            raise BadNumber(many)
        return [room for room, lines in self.all_breaks() if len(lines) <= many][0]

    def _apart(self):
        """What all gaps take."""
        return (self._gap * (len(self._items) - 1), 1)

    def _given_at(self, room):
        """What a room leaves for the sizes."""
        check_room(room)
        return minus(room, self._apart())

    def _width_of(self, numbers):
        """How wide some items are at level 0, with the gaps between them."""
        sizes = [bounded(self._items[number][0], self._items[number]) for number in numbers]
        return plus(sum_of(sizes), (self._gap * (len(sizes) - 1), 1))

    def _lines_in(self, room):
        lines = [[0]]
        for number in range(1, len(self._items)):
            if is_below(room, self._width_of(lines[-1] + [number])):
                lines.append([number])
            else:
                lines[-1].append(number)
        return lines

    def _next_break(self, lines):
        """The least room in which lines become other ones, or None."""
        least = None
        for numbers in lines[:-1]:
            wider = self._width_of(numbers + [numbers[-1] + 1])
            least = wider if least is None else lesser_of(least, wider)
        return least


def rows_part(one, other):
    """None if two rows have the same sizes at all rooms, else up to where they have."""
    if len(one.all_items()) != len(other.all_items()):
        raise UnlikeItems()
    if one.sizes_at(ZERO) != other.sizes_at(ZERO):
        return ("at", ZERO)
    room = parted_at(one.all_pieces(), other.all_pieces())
    return None if room is None else ("behind", room)
