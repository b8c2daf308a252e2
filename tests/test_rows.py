import unittest
from fractions import Fraction
from itertools import product

from naive import Asserts, Dice, deep_list
from pagefall.errors import BadNumber
from pagefall.refusals import BadGap, BadItems, BadRoom, BadSize, NoItem, UnlikeItems
from pagefall.rows import Row, rows_part
from test_forms import NO_FRACTIONS, form, told, worth

A, B = ((10, 1), 1, 1, 5, 30), ((20, 1), 2, 0, 0, None)
ZERO = (0, 1)
NEAR = Fraction(1, 10 ** 9)


def numbers(rows):
    return [Fraction(*row) for row in rows]


def size_at(item, level):
    """The size of an item at a level, as 12.3 says."""
    base, grow, shrink, least, most = item
    size = max(Fraction(*base) + level * (grow if level >= 0 else shrink), Fraction(least))
    return size if most is None else min(size, Fraction(most))


def some_item(dice, is_small=False):
    base = (dice.throw(40), 1) if is_small else (dice.throw(90), 1 + dice.throw(4))
    least = dice.pick([0, 0, dice.throw(20), dice.throw(40)])
    most = dice.pick([None, None, least + dice.throw(30)])
    return (base, dice.pick([0, 1, 1, 2, 5]), dice.pick([0, 1, 1, 3]), least, most)


def some_row(dice, most=5):
    return Row([some_item(dice) for _ in range(1 + dice.throw(most))], dice.pick([0, 0, 3, 10]))


def plain_sizes(row, room):
    """The sizes by trying levels: between the two neighbouring levels at which some item turns."""
    items = row.all_items()
    given = room - row.own_gap() * (len(items) - 1)
    levels = {Fraction(0), Fraction(10 ** 12), Fraction(-(10 ** 12))}
    for base, grow, shrink, least, most in items:
        for bound in (least, most):
            for rate in (grow, shrink):
                if bound is not None and rate:
                    levels.add((bound - Fraction(*base)) / rate)
    levels = sorted(levels)
    sums = [sum(size_at(item, level) for item in items) for level in levels]
    if given <= sums[0]:
        return [size_at(item, levels[0]) for item in items]
    for at in range(1, len(levels)):
        if given <= sums[at]:
            level = levels[at]
            if sums[at] > sums[at - 1]:
                level = levels[at - 1] + (given - sums[at - 1]) / (sums[at] - sums[at - 1]) * (levels[at] - levels[at - 1])
            return [size_at(item, level) for item in items]
    return [size_at(item, levels[-1]) for item in items]


def rooms_around(pieces):
    rooms = set()
    for low, high, _ in pieces:
        low = Fraction(*low)
        high = low + 1000 if high is None else Fraction(*high)
        rooms |= {low - NEAR, low, low + NEAR, (low + high) / 2, high}
    return sorted(room for room in rooms if room >= 0)


def line_ways(many):
    """All ways to break so many items into lines."""
    for cuts in product([False, True], repeat=many - 1):
        lines = [[0]]
        for number in range(1, many):
            if cuts[number - 1]:
                lines.append([])
            lines[-1].append(number)
        yield lines


def plain_width(row, line):
    return sum(size_at(row.all_items()[number], 0) for number in line) + row.own_gap() * (len(line) - 1)


class RowsTest(unittest.TestCase, Asserts):
    def test_the_example(self):
        row = Row([A, B])
        self.assertEqual(row.sizes_at((30, 1)), [(10, 1), (20, 1)])
        self.assertEqual(row.sizes_at((60, 1)), [(20, 1), (40, 1)])
        self.assertEqual(row.sizes_at((120, 1)), [(30, 1), (90, 1)])
        self.assertEqual(row.sizes_at((27, 1)), [(7, 1), (20, 1)])
        self.assertEqual((row.level_at((60, 1)), row.level_at((27, 1)), row.level_at((30, 1))), ((10, 1), (-3, 1), ZERO))
        self.assertEqual((row.sizes_at((20, 1)), row.left_at((20, 1))), ([(5, 1), (20, 1)], (-5, 1)))
        third = Fraction(1, 3)
        self.assertEqual(row.all_pieces(), [(ZERO, (25, 1), (form(5, 0), form(20, 0))), ((25, 1), (30, 1), (form(-20, 1), form(20, 0))),
                                            ((30, 1), (90, 1), (form(0, third), form(0, 2 * third))), ((90, 1), None, (form(30, 0), form(-30, 1)))])
        self.assertEqual(row.both_ends(), ((25, 1), None))

    def test_what_rows_are(self):
        row = Row(([[4, 8], 1, 2, 3, None], ((6, 3), 0, 0, 0, 0)), 7)
        self.assertEqual(row.all_items(), [((1, 2), 1, 2, 3, None), ((2, 1), 0, 0, 0, 0)])
        self.assertEqual((row.own_gap(), Row([A]).own_gap()), (7, 0))
        row.all_items().clear()
        self.assertEqual(row, Row(row.all_items(), gap=7))
        self.assertNotEqual(row, Row(row.all_items(), 6))
        self.assertNotEqual(row, Row(row.all_items()[:1], 7))
        self.assertNotEqual(row, Row(row.all_items()[::-1], 7))
        self.assertNotEqual(row, row.all_items())
        self.assertNotEqual(row, None)

    def test_bad_items_and_gaps(self):
        for thing in (None, 5, "ab", {}, [], (), {0: A}):
            self.assert_raises(BadItems, 0, Row, thing, None)
        places = [NO_FRACTIONS + [(-1, 2), 10], [None, -1, True, (1, 1), "1"], [None, -1, True], [None, -1, False], [-1, True, "none", 4]]
        wrong = [None, 5, (), A[:4], A + (0,), list(A) + [1], "abcde", {}, deep_list(2000)]
        wrong += [A[:place] + (bad,) + A[place + 1:] for place, things in enumerate(places) for bad in things]
        for bad in wrong:
            self.assert_raises(BadItems, 1, Row, [A, bad, None], None)
        for gap in (None, -1, True, "1", (1, 1), [], 1.5, deep_list(2000)):
            self.assert_keeps(BadGap, gap, Row, [A], gap)
        Row([A[:3] + (5, 5)], 0)

    def test_thrown_rows_in_all_rooms(self):
        dice = Dice(17)
        for _ in range(250):
            row = some_row(dice)
            pieces = row.all_pieces()
            self.check_pieces(row, pieces)
            for room in rooms_around(pieces):
                expected = plain_sizes(row, room)
                self.assertEqual(numbers(row.sizes_at(told(room))), expected)
                gaps = row.own_gap() * (len(expected) - 1)
                self.assertEqual(row.left_at(told(room)), told(room - gaps - sum(expected)))
                for low, high, forms in pieces:
                    if Fraction(*low) <= room and (high is None or room <= Fraction(*high)):
                        self.assertEqual([worth(part, room) for part in forms], expected)
                self.check_level(row, room, expected)
            self.check_ends(row, pieces)

    def check_pieces(self, row, pieces):
        self.assertEqual((pieces[0][0], pieces[-1][1]), (ZERO, None))
        for (low, high, forms), (following, _, others) in zip(pieces, pieces[1:]):
            self.assertEqual(high, following)
            self.assertLess(Fraction(*low), Fraction(*high))
            self.assertNotEqual(forms, others)
        for _, _, forms in pieces:
            rates = numbers(part[1] for part in forms)
            self.assertTrue(min(rates) >= 0 and sum(rates) in (0, 1))

    def check_level(self, row, room, expected):
        level = row.level_at(told(room))
        self.assertIs(row.is_level(told(room), level), True)
        self.assertEqual([size_at(item, Fraction(*level)) for item in row.all_items()], expected)
        for by in (Fraction(-1), -NEAR, NEAR, Fraction(2)):
            other = Fraction(*level) + by
            is_right = [size_at(item, other) for item in row.all_items()] == expected
            self.assertIs(row.is_level(told(room), [3 * other.numerator, 3 * other.denominator]), is_right)

    def check_ends(self, row, pieces):
        rooms = rooms_around(pieces)
        lefts = [(room, Fraction(*row.left_at(told(room)))) for room in rooms]
        least, greatest = row.both_ends()
        for room, left in lefts:
            self.assertIs(left >= 0, room >= Fraction(*least))
            self.assertIs(left <= 0, greatest is None or room <= Fraction(*greatest))
        for index in range(len(row.all_items())):
            sizes = [Fraction(*row.sizes_at(told(room))[index]) for room in rooms]
            self.assertEqual(sizes, sorted(sizes))
            for size in sizes + [size + NEAR for size in sizes] + [Fraction(-1)]:
                room = row.room_for(index, told(size))
                if room is None:
                    self.assertLess(sizes[-1], size)
                    self.assertEqual(pieces[-1][2][index][1], ZERO)
                    continue
                self.assertGreaterEqual(Fraction(*row.sizes_at(room)[index]), size)
                below = Fraction(*room) - NEAR
                self.assertTrue(room == ZERO or Fraction(*row.sizes_at(told(below))[index]) < size)

    def test_fairest_by_all_ways(self):
        dice = Dice(29)
        for _ in range(60):
            row = Row([some_item(dice, True) for _ in range(3)])
            items = row.all_items()
            start = [size_at(item, 0) for item in items]
            for room in (sum(start) + dice.throw(9), sum(start) - dice.throw(9)):
                sizes = numbers(row.sizes_at(told(max(room, 0))))
                rates = [item[1] if sum(sizes) > sum(start) else item[2] for item in items]
                if sum(sizes) == sum(start):
                    self.assertEqual(sizes, start)
                    continue
                self.check_fairest(items, sizes, start, rates)

    def check_fairest(self, items, sizes, start, rates):
        """No list of sizes with this sum, near or far, in whole numbers and halves, is fairer."""
        def unfair(others):
            return sum((size - Fraction(*item[0])) ** 2 / rate for size, item, rate in zip(others, items, rates) if rate)

        steps = [Fraction(step, 2) for step in range(-24, 25)]
        for one, other in product(steps, steps):
            others = [sizes[0] + one, sizes[1] + other, sizes[2] - one - other]
            if others == sizes or any(not rate and size != at for size, at, rate in zip(others, start, rates)):
                continue
            if all(item[3] <= size and (item[4] is None or size <= item[4]) for size, item in zip(others, items)):
                self.assertGreater(unfair(others), unfair(sizes))

    def test_needless_bounds(self):
        self.assertEqual(Row([((5, 1), 0, 0, 5, 5), ((5, 1), 1, 1, 5, 5), ((5, 1), 0, 0, 0, 4), ((5, 1), 0, 0, 6, None)]).needless_bounds(), [(0, "least"), (0, "most")])
        self.assertEqual(Row([((5, 1), 0, 0, 1, None), ((5, 1), 0, 0, 0, None)]).needless_bounds(), [(0, "least")])
        dice = Dice(71)
        seen = set()
        for _ in range(200):
            row = some_row(dice, 3)
            items = row.all_items()
            needless = []
            for index, item in enumerate(items):
                for word, place, free in (("least", 3, 0), ("most", 4, None)):
                    without = Row(items[:index] + [item[:place] + (free,) + item[place + 1:]] + items[index + 1:], row.own_gap())
                    if item[place] != free and rows_part(row, without) is None:
                        needless.append((index, word))
            self.assertEqual(row.needless_bounds(), needless)
            seen.update(word for _, word in needless)
        self.assertEqual(seen, {"least", "most"})

    def test_two_rows(self):
        dice = Dice(83)
        kinds = set()
        for _ in range(300):
            row = some_row(dice, 2)
            items = row.all_items()
            at = dice.throw(len(items))
            item, other = items[at], some_item(dice)
            place = dice.throw(5)
            changed = item[:place] + (other[place],) + item[place + 1:]
            if changed[4] is not None and changed[4] < changed[3]:
                continue
            beside = Row(items[:at] + [changed] + items[at + 1:], row.own_gap())
            kinds.add(self.check_part(row, beside))
        self.assertEqual(kinds, {None, "at", "behind"})
        self.assertIsNone(rows_part(Row([A], 3), Row([A], 9)))
        self.assertEqual(rows_part(Row([A, B], 3), Row([A, B], 9)), ("behind", (28, 1)))
        self.assertEqual(rows_part(Row([A]), Row([B])), ("at", ZERO))
        self.assertEqual(rows_part(Row([((5, 1), 1, 0, 0, None)]), Row([((5, 1), 0, 0, 0, None)])), ("behind", (5, 1)))
        self.assertEqual(rows_part(Row([((0, 1), 1, 0, 0, None)] * 2), Row([((0, 1), 1, 0, 0, None), ((0, 1), 2, 0, 0, None)])), ("behind", ZERO))
        self.assert_unlike(Row([A]), Row([A, A]))

    def check_part(self, row, other):
        told_part = rows_part(row, other)
        self.assertEqual(told_part, rows_part(other, row))
        rooms = rooms_around(row.all_pieces() + other.all_pieces())
        unlike = [room for room in rooms if plain_sizes(row, room) != plain_sizes(other, room)]
        if told_part is None:
            self.assertEqual(unlike, [])
            return None
        what, part = told_part
        self.assertEqual(what, "at" if unlike[0] == 0 else "behind")
        self.assertEqual(part, ZERO if what == "at" else part)
        if what == "behind":
            self.assertTrue(all(room > Fraction(*part) for room in unlike))
        behind = Fraction(*part) + NEAR / 7
        self.assertNotEqual(plain_sizes(row, behind), plain_sizes(other, behind))
        return what

    def assert_unlike(self, one, other):
        with self.assertRaises(UnlikeItems) as caught:
            rows_part(one, other)
        self.assertEqual(vars(caught.exception), {})

    def test_wrapped(self):
        row = Row([((10, 1), 1, 1, 0, None), ((30, 1), 0, 1, 0, 20), ((5, 2), 0, 0, 4, None)], 2)
        self.assertEqual(row.lines_at((38, 1)), [[0, 1, 2]])
        self.assertEqual(row.lines_at((75, 2)), [[0, 1], [2]])
        self.assertEqual(row.lines_at((31, 1)), [[0], [1, 2]])
        self.assertEqual(row.lines_at(ZERO), [[0], [1], [2]])
        self.assertEqual(row.wrapped_sizes((31, 1)), [(31, 1), (20, 1), (4, 1)])
        self.assertEqual(row.wrapped_sizes((13, 1)), [(13, 1), (13, 1), (4, 1)])
        self.assertEqual(row.all_breaks(), [(ZERO, [[0], [1], [2]]), ((26, 1), [[0], [1, 2]]), ((32, 1), [[0, 1], [2]]), ((38, 1), [[0, 1, 2]])])
        self.assertEqual([row.room_for_lines(many) for many in (1, 2, 3, 99)], [(38, 1), (26, 1), ZERO, ZERO])

    def test_wrapped_by_all_ways(self):
        dice = Dice(37)
        for _ in range(60):
            row = some_row(dice, 5)
            many = len(row.all_items())
            breaks = row.all_breaks()
            rooms = sorted({room for low, _ in breaks for room in (Fraction(*low) - NEAR, Fraction(*low), Fraction(*low) + 1) if room >= 0})
            for room in rooms:
                ways = [way for way in line_ways(many) if all(len(line) == 1 or plain_width(row, line) <= room for line in way)]
                lines = row.lines_at(told(room))
                self.assertIn(lines, ways)
                self.assertEqual(len(lines), min(map(len, ways)))
                self.assertTrue(all(line[0] >= other[0] for way in ways for line, other in zip(lines, way)))
                self.assertEqual([told_lines for low, told_lines in breaks if Fraction(*low) <= room][-1], lines)
                sizes = [size for line in lines for size in Row([row.all_items()[number] for number in line], row.own_gap()).sizes_at(told(room))]
                self.assertEqual(row.wrapped_sizes(told(room)), sizes)
            self.assertTrue(all(Fraction(*one[0]) < Fraction(*other[0]) and one[1] != other[1] for one, other in zip(breaks, breaks[1:])))
            for lines in range(1, many + 2):
                self.assertEqual(row.room_for_lines(lines), next(room for room, told_lines in breaks if len(told_lines) <= lines))

    def test_at_the_limits(self):
        dice = Dice(97)
        most = 10 ** 6
        for gap in (0, most):
            items = [((dice.throw(10 ** 15), 10 ** 9 - dice.throw(9)), dice.throw(101), dice.throw(101), dice.throw(most), dice.pick([None, most])) for _ in range(8)]
            row = Row(items, gap)
            self.check_pieces(row, row.all_pieces())
            for room in [Fraction(0), Fraction(8 * most), Fraction(10 ** 15 + 1, 10 ** 9), Fraction(10 ** 8)]:
                self.assertEqual(numbers(row.sizes_at(told(room))), plain_sizes(row, room))
            self.assertEqual(len(row.all_breaks()[-1][1]), 1)
            self.assertEqual(rows_part(row, Row(items, gap + 1))[0], "behind")

    def test_errors_in_order(self):
        row = Row([A, B], 2)
        for room in NO_FRACTIONS + [(-1, 2), 30]:
            for work in (row.sizes_at, row.left_at, row.level_at, row.lines_at, row.wrapped_sizes):
                self.assert_keeps(BadRoom, room, work, room)
            self.assert_keeps(BadRoom, room, row.is_level, room, None)
        for thing in NO_FRACTIONS:
            self.assertIs(row.is_level((30, 1), thing), False)
        for index in (None, -1, 2, True, "0", (0,), deep_list(2000)):
            self.assert_keeps(NoItem, index, row.room_for, index, None)
        for size in NO_FRACTIONS:
            self.assert_keeps(BadSize, size, row.room_for, 1, size)
        for many in (None, 0, -1, True, "1", (1, 1), 1.5, deep_list(2000)):
            self.assert_keeps(BadNumber, many, row.room_for_lines, many)

    def test_what_was_passed_stays(self):
        items = [[[20, 2], 1, 1, 5, 30], B]
        row = Row(items)
        items[0][0][0] = 99
        row.sizes_at((9, 1)).clear()
        row.all_pieces().clear()
        row.lines_at((9, 1))[0].clear()
        row.all_breaks()[0][1].clear()
        self.assertEqual(row, Row([A, B]))
        self.assertEqual(items, [[[99, 2], 1, 1, 5, 30], B])
        self.assertEqual(len(row.all_breaks()[0][1]), 2)


if __name__ == "__main__":
    unittest.main()
