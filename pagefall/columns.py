"""Columns of tables: where their lines can be, and where they are told to be."""

from pagefall.errors import BadNumber, BadWidth
from pagefall.kinds import is_integer, is_list, is_whole, is_width
from pagefall.pieces import parted_at
from pagefall.ratios import ZERO, greater_of, is_at_most, is_below, is_fraction, minus, plus, sum_of, told_fraction
from pagefall.refusals import BadCells, BadPlace, NoLine, NoPlacing, UnlikeColumns
from pagefall.sharing import lines_behind, pieces_shared, widths_in
from pagefall.ways import Ways


def is_cell(thing, many):
    """Whether a thing is a cell of so many columns."""
    if not is_list(thing) or len(thing) != 4 or not all([is_whole(number) for number in thing]):
        return False
    first, last, need, wish = thing
    return first <= last < many and need <= wish


def check_cells(cells, many):
    if not is_list(cells):
        raise BadCells(0)
    for index, cell in enumerate(cells):
        if not is_cell(cell, many):
            raise BadCells(index)


def check_width(width):
    if not is_width(width):
        raise BadWidth(width)


class Columns:
    """So many columns with cells (first, last, need, wish); they never change."""

    def __init__(self, many, cells):
        if not is_integer(many) or many < 1:
            raise BadNumber(many)
        check_cells(cells, many)
        self._many = many
        self._cells = [tuple(cell) for cell in cells]
        self._ways = Ways(many, self._cells)

    def __eq__(self, other):
        return isinstance(other, Columns) and self._many == other._many and self._cells == other._cells

    def how_many(self):
        return self._many

    def all_cells(self):
        return list(self._cells)

    def turned_round(self):
        """The columns with the last one first."""
        last = self._many - 1
        return Columns(self._many, [(last - cell[1], last - cell[0]) + cell[2:] for cell in self._cells])

    def is_placing(self, width, thing):
        """Whether any object is a placing of the lines for a width."""
        check_width(width)
        if not is_list(thing) or len(thing) != self._many + 1 or not all([is_fraction(place) for place in thing]):
            return False
        places = [told_fraction(place) for place in thing]
        if places[0] != ZERO or places[-1] != told_fraction(width):
            return False
        if any([is_below(places[line + 1], places[line]) for line in range(self._many)]):
            return False
        return all([is_at_most((cell[2], 1), minus(places[cell[1] + 1], places[cell[0]])) for cell in self._cells])

    def least_width(self):
        """The least width for which there is a placing."""
        return self._ways.way(0, self._many)

    def side_by_side(self):
        """The numbers of cells side by side that need the least width together."""
        return self._ways.numbers_along(self._many)

    def shows_least(self, thing):
        """Whether any object is a list of numbers of cells side by side that need the least width."""
        if not is_list(thing) or not all([is_whole(number) and number < len(self._cells) for number in thing]):
            return False
        cells = [self._cells[number] for number in thing]
        if any([cells[at][0] <= cells[at - 1][1] for at in range(1, len(cells))]):
            return False
        return sum([cell[2] for cell in cells]) == self.least_width()

    def places_of(self, line, width):
        """The least and the greatest place of a line in any placing."""
        self._check_placed(width)
        if not is_integer(line) or not 0 < line < self._many:
            raise NoLine(line)
        return (self._least_place(line), self._greatest_place(line, width))

    def distances_of(self, one, other, width):
        """The least and the greatest distance of two lines in any placing."""
        self._check_placed(width)
        if not is_whole(one) or one > self._many:
            raise NoLine(one)
        if not is_whole(other) or not one < other <= self._many:
            raise NoLine(other)
        if other - one == self._many:
            return (told_fraction(width), told_fraction(width))
        nearest = minus(self._least_place(other), self._greatest_place(one, width))
        farthest = minus(self._greatest_place(other, width), self._least_place(one))
        return (greater_of((self._ways.way(one, other), 1), nearest), farthest)

    def placing_with(self, line, place, width):
        """A placing with a line at a place, or None."""
        least, greatest = self.places_of(line, width)
        if not is_fraction(place):
            raise BadPlace(place)
        if is_below(place, least) or is_below(greatest, place):
            return None
        return self._placing_at(line, place, width)

    def needless_cells(self):
        """The numbers of the cells without which alone all widths have the same placings."""
        found = []
        for number, (first, last, need, _) in enumerate(self._cells):
            others = Ways(self._many, self._cells[:number] + self._cells[number + 1:])
            if need > 0 and others.way(first, last + 1) >= need:
                found.append(number)
        return found

    def told_lines(self, width):
        """The places of the lines that are told for a width."""
        check_width(width)
        return lines_behind(widths_in(self.all_pieces(), width))

    def greatest_width(self):
        """The sum of the greatest widths of the columns."""
        return sum_of(self._greatests())

    def all_pieces(self):
        """The rows of a width, the one up to which, and the forms of the columns' widths there."""
        return pieces_shared(self._leasts(), self._greatests())

    def way(self, one, other):
        """The greatest sum of needs of cells side by side between two lines."""
        return self._ways.way(one, other)

    def placing_near(self, one, width):
        """A placing with a line as far on as it can be, all others as far back as they can be then."""
        return self._placing_at(one, self._greatest_place(one, width) if one > 0 else ZERO, width)

    def _check_placed(self, width):
        check_width(width)
        if is_below(width, (self.least_width(), 1)):
            raise NoPlacing()

    def _least_place(self, line):
        return (self._ways.way(0, line), 1)

    def _greatest_place(self, line, width):
        return minus(width, (self._ways.way(line, self._many), 1))

    def _placing_at(self, line, place, width):
        """The placing with a line at a place where it can be, all others as far back as they can be then."""
        places = [self._least_place(other) for other in range(line)]
        for other in range(line, self._many):
            places.append(greater_of(self._least_place(other), plus(place, (self._ways.way(line, other), 1))))
        return places + [told_fraction(width)]

    def _leasts(self):
        """The least width of each column."""
        least = (self.least_width(), 1)
        places = [ZERO]
        for line in range(1, self._many):
            both = plus(self._least_place(line), self._greatest_place(line, least))
            places.append(told_fraction((both[0], 2 * both[1])))
        places.append(least)
        return [minus(places[line + 1], places[line]) for line in range(self._many)]

    def _greatests(self):
        """The greatest width of each column."""
        greatests = self._leasts()
        for first, last, _, wish in self._cells:
            if first == last:
                greatests[first] = greater_of(greatests[first], (wish, 1))
        return greatests


def check_as_many(one, other):
    if one.how_many() != other.how_many():
        raise UnlikeColumns()


def line_pairs(many):
    return [(one, other) for one in range(many) for other in range(one + 1, many + 1)]


def same_placings(one, other):
    """Whether all widths have the same placings."""
    check_as_many(one, other)
    return all([one.way(low, high) == other.way(low, high) for low, high in line_pairs(one.how_many())])


def parting_placing(one, other):
    """The pair of the least integer width and a placing of the one for it that is none of the other, or None."""
    many = one.how_many()
    found = []
    for low, high in line_pairs(many):
        if one.way(low, high) < other.way(low, high):
            # Just from this width on the two lines can stand nearer to each other than the other one lets them.
            near = one.way(0, high) + one.way(low, many) - other.way(low, high) + 1
            found.append((max(one.least_width(), near), low))
    if not found:
        return None
    least, line = min(found)
    return ((least, 1), one.placing_near(line, (least, 1)))


def placing_apart(one, other):
    """A width and a placing of just one of both for it, None if there is none."""
    check_as_many(one, other)
    found = [pair for pair in (parting_placing(one, other), parting_placing(other, one)) if pair is not None]
    return min(found, key=lambda pair: pair[0]) if found else None


def columns_part(one, other):
    """None if the told widths of the columns are the same at all widths, else up to where they are."""
    check_as_many(one, other)
    pieces, others = one.all_pieces(), other.all_pieces()
    if widths_in(pieces, ZERO) != widths_in(others, ZERO):
        return ("at", ZERO)
    width = parted_at(pieces, others)
    return None if width is None else ("behind", width)
