import unittest
from fractions import Fraction
from itertools import combinations, product

from naive import Asserts, Dice, deep_list
from pagefall.columns import Columns, columns_part, placing_apart, same_placings
from pagefall.errors import BadNumber, BadWidth
from pagefall.refusals import BadCells, BadPlace, NoLine, NoPlacing, UnlikeColumns
from pagefall.rows import Row
from test_forms import NO_FRACTIONS, told, worth

EXAMPLE = [(0, 0, 4, 10), (1, 1, 6, 6), (0, 1, 16, 20)]
ZERO = (0, 1)
NO_WIDTHS = NO_FRACTIONS + [(-1, 2)]


def some_columns(dice, many, cells, most=5):
    rows = []
    for _ in range(cells):
        first = dice.throw(many)
        last = min(many - 1, first + dice.pick([0, 0, 1, 2]))
        need = dice.throw(most)
        rows.append((first, last, need, need + dice.throw(most)))
    return Columns(many, rows)


def all_placings(columns, width):
    """All placings at integers."""
    many = columns.how_many()
    for inner in product(range(width + 1), repeat=many - 1):
        places = (0,) + inner + (width,)
        if list(places) == sorted(places) and all(places[cell[1] + 1] - places[cell[0]] >= cell[2] for cell in columns.all_cells()):
            yield places


def plain_lines(columns, width):
    """The told lines by giving what there is bit by bit: the least lines, then one amount alike."""
    many = columns.how_many()
    least = columns.least_width()
    places = [Fraction(0)]
    for line in range(1, many):
        ends = columns.places_of(line, (least, 1))
        places.append((Fraction(*ends[0]) + Fraction(*ends[1])) / 2)
    places.append(Fraction(least))
    leasts = [after - ahead for ahead, after in zip(places, places[1:])]
    greatests = list(leasts)
    for first, last, _, wish in columns.all_cells():
        if first == last:
            greatests[first] = max(greatests[first], Fraction(wish))
    widths = list(leasts)
    spare = max(Fraction(0), width - sum(leasts))
    while spare > 0:
        open_ones = [column for column in range(many) if widths[column] < greatests[column]] or list(range(many))
        step = spare / len(open_ones)
        if any(widths[column] < greatests[column] for column in range(many)):
            step = min([step] + [greatests[column] - widths[column] for column in open_ones])
        for column in open_ones:
            widths[column] += step
        spare -= step * len(open_ones)
    lines = [Fraction(0)]
    for wide in widths:
        lines.append(lines[-1] + wide)
    return lines


class ColumnsTest(unittest.TestCase, Asserts):
    def test_the_example(self):
        columns = Columns(2, EXAMPLE)
        self.assertEqual((columns.least_width(), columns.side_by_side()), (16, [2]))
        self.assertEqual(columns.places_of(1, (16, 1)), ((4, 1), (10, 1)))
        self.assertEqual(columns.told_lines((16, 1)), [ZERO, (7, 1), (16, 1)])
        self.assertEqual(columns.told_lines((18, 1)), [ZERO, (9, 1), (18, 1)])
        self.assertEqual(columns.told_lines((19, 1)), [ZERO, (10, 1), (19, 1)])
        self.assertEqual(columns.told_lines((21, 1)), [ZERO, (11, 1), (21, 1)])
        self.assertEqual(columns.greatest_width(), (19, 1))
        self.assertEqual(columns.needless_cells(), [])
        self.assertEqual(Columns(2, EXAMPLE[:2] + [(0, 1, 10, 20)]).needless_cells(), [2])

    def test_what_is_kept(self):
        cells = [[0, 0, 4, 10], (1, 2, 3, 3)]
        columns = Columns(3, cells)
        cells[0][2] = 9
        self.assertEqual((columns.how_many(), columns.all_cells()), (3, [(0, 0, 4, 10), (1, 2, 3, 3)]))
        columns.all_cells().append(5)
        self.assertEqual(len(columns.all_cells()), 2)
        self.assertTrue(columns == Columns(many=3, cells=((0, 0, 4, 10), (1, 2, 3, 3))))
        self.assertTrue(Columns(1, ()) == Columns(1, []))
        self.assertFalse(columns == Columns(3, columns.all_cells()[::-1]))
        self.assertFalse(columns == Columns(4, columns.all_cells()))
        for other in (5, None, [(0, 0, 4, 10)], Row([((1, 1), 1, 1, 1, 1)])):
            self.assertFalse(columns == other)
        turned = columns.turned_round()
        self.assertEqual(turned.all_cells(), [(2, 2, 4, 10), (0, 1, 3, 3)])
        self.assertTrue(turned.turned_round() == columns)

    def test_wrong_columns(self):
        for many in (0, -1, True, None, "2", (2, 1), 2.5, [], deep_list(2000)):
            self.assert_keeps(BadNumber, many, Columns, many, [])
            self.assert_keeps(BadNumber, many, Columns, many, 5)
        for cells in (None, 5, "ab", {}, {0: (0, 0, 1, 1)}):
            self.assert_raises(BadCells, 0, Columns, 2, cells)
        good = (0, 1, 2, 3)
        for bad in (None, 5, "abcd", (), (0, 1, 2), (0, 1, 2, 3, 4), (1, 0, 2, 3), (0, 2, 2, 3), (0, 1, 3, 2), (-1, 0, 2, 3),
                    (0, 1, -1, 3), (True, 1, 2, 3), (0, 1, 2, None), (0, True, 2, 3), deep_list(2000)):
            self.assert_raises(BadCells, 1, Columns, 2, [good, bad, bad])
        self.assertEqual(Columns(2, [good, [0, 1, 0, 0]]).all_cells(), [good, (0, 1, 0, 0)])

    def test_no_cells_and_needs_of_nothing(self):
        empty = Columns(3, [])
        self.assertEqual((empty.least_width(), empty.side_by_side(), empty.needless_cells(), empty.greatest_width()), (0, [], [], ZERO))
        self.assertEqual(empty.all_pieces(), [(ZERO, None, (((0, 1), (1, 3)),) * 3)])
        self.assertEqual(empty.told_lines((1, 2)), [ZERO, (1, 6), (1, 3), (1, 2)])
        self.assertTrue(empty.shows_least([]) and empty.shows_least(()))
        nothing = Columns(2, [(0, 0, 0, 4), (1, 1, 0, 0)])
        self.assertEqual(nothing.side_by_side(), [])
        self.assertTrue(nothing.shows_least([0, 1]) and nothing.shows_least([1]))
        self.assertFalse(nothing.shows_least([1, 0]) or nothing.shows_least([0, 0]) or nothing.shows_least([2]))

    def test_placings_are_looked_through(self):
        columns = Columns(2, EXAMPLE)
        self.assertTrue(columns.is_placing((16, 1), [(0, 1), (7, 1), (16, 1)]))
        self.assertTrue(columns.is_placing((32, 2), ((0, 5), [14, 2], (160, 10))))
        for bad in ([(0, 1), (3, 1), (16, 1)], [(0, 1), (11, 1), (16, 1)], [(0, 1), (7, 1), (17, 1)], [(1, 1), (7, 1), (16, 1)],
                    [(0, 1), (16, 1)], [(0, 1), (7, 1), (7, 1), (16, 1)], [0, (7, 1), (16, 1)], None, 5, "ab", deep_list(2000),
                    [(0, 1), (7, 0), (16, 1)], {0: 1}, columns):
            self.assertFalse(columns.is_placing((16, 1), bad))
        # Lines never fall, even where no cell asks for it.
        self.assertFalse(Columns(2, []).is_placing((5, 1), [(0, 1), (6, 1), (5, 1)]))
        self.assertFalse(columns.is_placing((15, 1), [(0, 1), (7, 1), (15, 1)]))
        self.assertFalse(Columns(2, []).is_placing((5, 1), [(1, 1), (2, 1), (5, 1)]))
        self.assertFalse(Columns(2, []).is_placing((5, 1), [(0, 1), (2, 1), (4, 1)]))

    def test_wrong_asked(self):
        columns = Columns(3, [(0, 0, 4, 10), (1, 2, 5, 6)])
        for width in NO_WIDTHS:
            self.assert_keeps(BadWidth, width, columns.is_placing, width, None)
            self.assert_keeps(BadWidth, width, columns.places_of, 9, width)
            self.assert_keeps(BadWidth, width, columns.distances_of, 9, 9, width)
            self.assert_keeps(BadWidth, width, columns.placing_with, 9, None, width)
            self.assert_keeps(BadWidth, width, columns.told_lines, width)
        for work, arguments in ((columns.places_of, (9,)), (columns.distances_of, (9, 9)), (columns.placing_with, (9, None))):
            with self.assertRaises(NoPlacing) as caught:
                work(*arguments, (17, 2))
            self.assertEqual(vars(caught.exception), {})
        for line in (0, 3, 4, -1, True, None, "1", (1, 1), deep_list(2000)):
            self.assert_keeps(NoLine, line, columns.places_of, line, (9, 1))
            self.assert_keeps(NoLine, line, columns.placing_with, line, None, (9, 1))
        for line in (4, -1, True, None, (1, 1)):
            self.assert_keeps(NoLine, line, columns.distances_of, line, line, (9, 1))
            self.assert_keeps(NoLine, line, columns.distances_of, 1, line, (9, 1))
            self.assert_keeps(NoLine, line, columns.distances_of, line, 2, (9, 1))
            self.assert_keeps(NoLine, line, columns.distances_of, line, 9, (9, 1))
        for other in (0, 1):
            self.assert_raises(NoLine, other, columns.distances_of, 1, other, (9, 1))
        self.assert_raises(NoLine, 0, columns.distances_of, 3, 0, (9, 1))
        for place in NO_FRACTIONS:
            self.assert_keeps(BadPlace, place, columns.placing_with, 1, place, (9, 1))
        for work in (same_placings, placing_apart, columns_part):
            with self.assertRaises(UnlikeColumns):
                work(columns, Columns(2, []))

    def test_least_widths_by_all_placings(self):
        dice = Dice(31)
        for _ in range(60):
            columns = some_columns(dice, 1 + dice.throw(3), dice.throw(5))
            cells = columns.all_cells()
            least = next(width for width in range(100) if any(True for _ in all_placings(columns, width)))
            self.assertEqual(columns.least_width(), least)
            shown = columns.side_by_side()
            self.assertTrue(columns.shows_least(shown))
            self.assertEqual(shown == [], least == 0)
            for many in range(len(cells) + 1):
                for numbers in combinations(range(len(cells)), many):
                    taken = [column for number in numbers for column in range(cells[number][0], cells[number][1] + 1)]
                    is_right = len(set(taken)) == len(taken) and sum(cells[number][2] for number in numbers) == least
                    ordered = sorted(numbers, key=lambda number: cells[number][0])
                    self.assertEqual(columns.shows_least(ordered), is_right)
                    if len(ordered) > 1:
                        self.assertFalse(columns.shows_least(ordered[::-1]))
            for bad in (None, 5, "a", [True], [None], [len(cells)], [-1], {0: 0}, deep_list(2000)):
                self.assertFalse(columns.shows_least(bad))

    def test_places_and_distances_by_all_placings(self):
        dice = Dice(32)
        for _ in range(40):
            columns = some_columns(dice, 1 + dice.throw(3), dice.throw(5))
            many = columns.how_many()
            for width in range(columns.least_width(), columns.least_width() + 4):
                placings = list(all_placings(columns, width))
                for line in range(1, many):
                    met = [places[line] for places in placings]
                    self.assertEqual(columns.places_of(line, (2 * width, 2)), ((min(met), 1), (max(met), 1)))
                    for place in range(-1, width + 2):
                        found = columns.placing_with(line, (2 * place, 2), (width, 1))
                        self.assertEqual(found is None, place not in met)
                        self.assertTrue(found is None or columns.is_placing((width, 1), found) and found[line] == (place, 1))
                    half = told(Fraction(min(met) + max(met), 2))
                    self.assertEqual(columns.placing_with(line, half, (width, 1))[line], half)
                for one, other in combinations(range(many + 1), 2):
                    met = [places[other] - places[one] for places in placings]
                    self.assertEqual(columns.distances_of(one, other, (width, 1)), ((min(met), 1), (max(met), 1)))

    def test_needless_cells_and_same_placings_by_all_placings(self):
        dice = Dice(33)
        apart = 0
        for _ in range(250):
            many = 1 + dice.throw(3)
            one = some_columns(dice, many, dice.throw(5), 4)
            other = some_columns(dice, many, dice.throw(5), 4)
            if dice.throw(3) == 0:
                other = Columns(many, one.all_cells()[1:])
            top = one.least_width() + other.least_width() + 3
            rows = [[set(all_placings(columns, width)) for width in range(top)] for columns in (one, other)]
            self.assertEqual(same_placings(one, other), rows[0] == rows[1])
            found = placing_apart(one, other)
            self.assertEqual(found is None, rows[0] == rows[1])
            if found is not None:
                apart += 1
                width, places = found
                self.assertEqual(width, (next(at for at in range(top) if rows[0][at] != rows[1][at]), 1))
                self.assertIsInstance(places, list)
                self.assertNotEqual(one.is_placing(width, places), other.is_placing(width, places))
            needless = []
            for number, cell in enumerate(one.all_cells()):
                fewer = Columns(many, one.all_cells()[:number] + one.all_cells()[number + 1:])
                if cell[2] > 0 and same_placings(one, fewer):
                    needless.append(number)
            self.assertEqual(one.needless_cells(), needless)
        self.assertGreater(apart, 50)
        self.assertTrue(same_placings(Columns(2, [(0, 1, 0, 4)]), Columns(2, [])))

    def test_told_lines_by_plain_sharing(self):
        dice = Dice(34)
        for _ in range(120):
            columns = some_columns(dice, 1 + dice.throw(4), dice.throw(7), 9)
            pieces = columns.all_pieces()
            self.assertEqual((pieces[0][0], pieces[-1][1]), (ZERO, None))
            for at in range(1, len(pieces)):
                self.assertEqual(pieces[at - 1][1], pieces[at][0])
                self.assertNotEqual(pieces[at - 1][2], pieces[at][2])
            ends = [Fraction(*piece[0]) for piece in pieces]
            widths = ends + [(low + high) / 2 for low, high in zip(ends, ends[1:])] + [ends[-1] + Fraction(7, 3)]
            widths.append(Fraction(columns.least_width()))
            for width in widths:
                lines = columns.told_lines(told(width))
                self.assertEqual([Fraction(*line) for line in lines], plain_lines(columns, width))
                told_by = [piece for piece in pieces if Fraction(*piece[0]) <= width and (piece[1] is None or width <= Fraction(*piece[1]))]
                for _, _, forms in told_by:
                    wide = [worth(form, width) for form in forms]
                    self.assertEqual([Fraction(*line) for line in lines[1:]], [sum(wide[:at + 1]) for at in range(len(wide))])
                if width >= columns.least_width():
                    self.assertTrue(columns.is_placing(told(width), lines))
                mirrored = columns.turned_round().told_lines(told(width))
                whole = Fraction(*lines[-1])
                self.assertEqual([Fraction(*line) for line in mirrored], [whole - Fraction(*line) for line in lines[::-1]])
            self.assertEqual(columns.told_lines(columns.greatest_width())[-1], columns.greatest_width())

    def test_columns_can_be_put_in_another_order(self):
        cells = [(0, 0, 3, 9), (1, 1, 5, 6), (2, 2, 0, 2)]
        turned = [(2, 2, 3, 9), (0, 0, 5, 6), (1, 1, 0, 2)]
        for width in range(0, 40, 3):
            lines, others = [columns.told_lines((width, 2)) for columns in (Columns(3, cells), Columns(3, turned))]
            wide, other = [[Fraction(*after) - Fraction(*ahead) for ahead, after in zip(row, row[1:])] for row in (lines, others)]
            self.assertEqual([wide[1], wide[2], wide[0]], other)

    def test_columns_part(self):
        self.assertIsNone(columns_part(Columns(2, EXAMPLE), Columns(2, EXAMPLE[::-1])))
        self.assertEqual(columns_part(Columns(1, [(0, 0, 2, 2)]), Columns(1, [(0, 0, 3, 3)])), ("at", ZERO))
        self.assertEqual(columns_part(Columns(2, [(0, 0, 0, 4)]), Columns(2, [(0, 0, 0, 6)])), ("behind", (4, 1)))
        self.assertIsNone(columns_part(Columns(2, [(0, 0, 0, 4), (1, 1, 0, 4)]), Columns(2, [(0, 0, 0, 6), (1, 1, 0, 6)])))
        dice = Dice(35)
        for _ in range(80):
            many = 1 + dice.throw(3)
            one = some_columns(dice, many, dice.throw(4), 4)
            other = Columns(many, one.all_cells() + some_columns(dice, many, 1, 6).all_cells())
            part = columns_part(one, other)
            ends = sorted({Fraction(*piece[0]) for columns in (one, other) for piece in columns.all_pieces()})
            widths = ends + [end + Fraction(1, 10 ** 9) for end in ends] + [ends[-1] + 1]
            unlike = [width for width in sorted(widths) if one.told_lines(told(width)) != other.told_lines(told(width))]
            if part is None:
                self.assertEqual(unlike, [])
            elif part[0] == "at":
                self.assertEqual((part[1], unlike[0]), (ZERO, 0))
            else:
                self.assertEqual(unlike[0], Fraction(*part[1]) + Fraction(1, 10 ** 9))

    def test_at_the_limits(self):
        dice = Dice(36)
        columns = some_columns(dice, 12, 24, 10 ** 6)
        least = columns.least_width()
        self.assertTrue(columns.shows_least(columns.side_by_side()))
        for width in ((least, 1), (least * 10 ** 9 + 1, 10 ** 9), (10 ** 15 + 1, 10 ** 9 - 1)):
            width = width if Fraction(*width) >= least else (least, 1)
            self.assertTrue(columns.is_placing(width, columns.told_lines(width)))
        self.assertEqual(placing_apart(columns, columns), None)
        self.assertTrue(columns.is_placing((10 ** 7, 1), columns.placing_with(5, columns.places_of(5, (10 ** 7, 1))[0], (10 ** 7, 1))))


if __name__ == "__main__":
    unittest.main()
