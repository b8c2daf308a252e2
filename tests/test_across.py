import unittest
from fractions import Fraction

from naive import Asserts, Dice, deep_list
from pagefall.across import across_of, fits_from, in_rooms, is_across, parted_from
from pagefall.refusals import BadAcross, BadRoom
from test_forms import NO_FRACTIONS, form, told, worth
from test_sheets import LET, NEVER, rows_of

ONE = ("auto", 0, 50, "auto", 10, 2, 3)
OTHER = (("part", 50), 10, "none", "auto", "auto", 0, 0)
WORDS = ["width", "least", "most", "mleft", "mright", "pleft", "pright"]
ZERO = (0, 1)


def naive_across(row, room):
    """The five by what 9.1 says, in fractions."""
    def number(length):
        if length == "auto":
            return Fraction(0)
        return Fraction(length) if isinstance(length, int) else room * length[1] / 100

    width, least, most, *lengths = row
    left, right, pad, other_pad = map(number, lengths)
    rest = room - left - right - pad - other_pad

    def held(size):
        return max(least, size if most == "none" else min(most, size))

    if width == "auto" and held(rest) == rest:
        return (left, pad, rest, other_pad, right)
    size = Fraction(held(rest if width == "auto" else number(width)))
    if rest > size and lengths[0] == "auto":
        left = (rest - size) / (2 if lengths[1] == "auto" else 1)
    return (left, pad, size, other_pad, room - left - pad - size - other_pad)


def some_told(dice):
    def length():
        return dice.pick([0, 3, 7, 40, ("part", dice.pick([0, 10, 33, 50, 99, 100, 101, 150, 300]))])

    margins = [dice.pick(["auto", length(), length()]) for _ in range(2)]
    return (dice.pick(["auto", length()]), dice.pick([0, 0, 5, 20]), dice.pick(["none", "none", 0, 4, 30]), *margins, length(), length())


def rooms_around(pieces):
    """Rooms at the ends of stretches, right below, right above and between."""
    near = Fraction(1, 10 ** 9)
    rooms = {Fraction(0), Fraction(10 ** 7)}
    for (low, _, high, _), _ in pieces:
        low = Fraction(*low)
        high = low + 100 if high is None else Fraction(*high)
        rooms |= {low, low + near, (low + high) / 2, high - near, high}
    return sorted(room for room in rooms if room >= 0)


class AcrossTest(unittest.TestCase, Asserts):
    def test_the_example(self):
        self.assertEqual(across_of(ONE, (100, 1)), ((35, 1), (2, 1), (50, 1), (3, 1), (10, 1)))
        self.assertEqual(across_of(ONE, (60, 1)), ((0, 1), (2, 1), (45, 1), (3, 1), (10, 1)))
        self.assertEqual(across_of(ONE, (4, 1)), ((0, 1), (2, 1), (0, 1), (3, 1), (-1, 1)))
        pads = (form(2, 0), form(3, 0))
        self.assertEqual(in_rooms(ONE), [((ZERO, True, (15, 1), True), (form(0, 0), pads[0], form(0, 0), pads[1], form(-5, 1))),
                                         (((15, 1), False, (65, 1), True), (form(0, 0), pads[0], form(-15, 1), pads[1], form(10, 0))),
                                         (((65, 1), False, None, False), (form(-65, 1), pads[0], form(50, 0), pads[1], form(10, 0)))])
        self.assertEqual(fits_from(ONE), (5, 1))
        none = form(0, 0)
        half, quarter = Fraction(1, 2), Fraction(1, 4)
        self.assertEqual(in_rooms(OTHER), [((ZERO, True, (10, 1), True), (none, none, form(10, 0), none, form(-10, 1))),
                                           (((10, 1), False, (20, 1), True), (form(-5, half), none, form(10, 0), none, form(-5, half))),
                                           (((20, 1), False, None, False), (form(0, quarter), none, form(0, half), none, form(0, quarter)))])
        self.assertEqual(fits_from(OTHER), (10, 1))
        self.assertEqual(parted_from(ONE, ("auto", 0, 60, "auto", 10, 2, 3)), (65, 1))

    def test_one_by_one(self):
        def at(*row, room=100):
            return tuple(Fraction(*part) for part in across_of(row, (room, 1)))

        self.assertEqual(at("auto", 0, "none", 5, 7, 0, 0), (5, 0, 88, 0, 7))
        self.assertEqual(at("auto", 0, "none", "auto", "auto", 0, 0), (0, 0, 100, 0, 0))
        self.assertEqual(at(30, 0, "none", 5, 7, 1, 2), (5, 1, 30, 2, 62))
        self.assertEqual(at(30, 0, "none", 5, "auto", 1, 2), (5, 1, 30, 2, 62))
        self.assertEqual(at(30, 0, "none", "auto", 7, 1, 2), (60, 1, 30, 2, 7))
        self.assertEqual(at(30, 0, "none", "auto", "auto", 1, 2), (Fraction(67, 2), 1, 30, 2, Fraction(67, 2)))
        self.assertEqual(at(130, 0, "none", "auto", "auto", 1, 2), (0, 1, 130, 2, -33))
        self.assertEqual(at(30, 40, 20, 0, 0, 0, 0), (0, 0, 40, 0, 60))
        self.assertEqual(at("auto", 0, 20, 5, 7, 0, 0), (5, 0, 20, 0, 75))
        self.assertEqual(at("auto", 0, "none", 60, 60, 0, 0), (60, 0, 0, 0, 40))
        self.assertEqual(at(("part", 150), 0, "none", ("part", 10), "auto", ("part", 0), 0), (10, 0, 150, 0, -60))

    def test_thrown_ones_in_all_rooms(self):
        dice = Dice(19)
        most = 0
        for _ in range(500):
            row = some_told(dice)
            pieces = in_rooms(row)
            most = max(most, len(pieces))
            self.assertEqual(pieces[0][0][:2], (ZERO, True))
            self.assertEqual(pieces[-1][0][2:], (None, False))
            for (stretch, forms), (following, others) in zip(pieces, pieces[1:]):
                self.assertEqual(following[:2], (stretch[2], False))
                self.assertIs(stretch[3], True)
                self.assertNotEqual(forms, others)
            for room in rooms_around(pieces):
                self.check_room(row, pieces, room, fits_from(row))
        self.assertTrue(3 <= most <= 7)

    def check_room(self, row, pieces, room, fits):
        expected = naive_across(row, room)
        self.assertEqual(sum(expected), room)
        self.assertEqual(across_of(row, told(room)), tuple(told(part) for part in expected))
        for (low, _, high, _), forms in pieces:
            if Fraction(*low) <= room and (high is None or room <= Fraction(*high)):
                self.assertEqual(tuple(worth(part, room) for part in forms), expected)
        if fits is not None and room >= Fraction(*fits):
            self.assertGreaterEqual(expected[4], 0)
        elif room > 0:
            self.assertLess(expected[4], 0)

    def test_fits(self):
        self.assertEqual(fits_from(("auto", 0, "none", 0, 0, 0, 0)), ZERO)
        self.assertEqual(fits_from((0, 0, "none", 0, 0, ("part", 100), 0)), ZERO)
        self.assertIsNone(fits_from(("auto", 0, "none", 0, 0, ("part", 101), 0)))
        self.assertIsNone(fits_from((("part", 100), 0, "none", 0, 0, 0, 1)))
        self.assertEqual(fits_from((("part", 50), 0, "none", 1, 0, 0, 0)), (2, 1))
        self.assertIsNone(fits_from((("part", 300), 0, "none", 0, 0, 0, 0)))
        self.assertEqual(fits_from((("part", 300), 0, 10, 0, 0, 0, 0)), (10, 1))

    def test_parted(self):
        dice = Dice(6)
        near = Fraction(1, 10 ** 9)
        alike = 0
        for _ in range(400):
            row = some_told(dice)
            other = list(row)
            other[dice.throw(7)] = some_told(dice)[dice.throw(7)]
            try:
                parted = parted_from(row, other)
            except BadAcross:
                continue
            rooms = rooms_around(in_rooms(row) + in_rooms(other))
            if parted is None:
                alike += 1
                self.assertTrue(all(naive_across(row, room) == naive_across(other, room) for room in rooms))
            else:
                behind = Fraction(*parted)
                self.assertTrue(all(naive_across(row, room) == naive_across(other, room) for room in rooms if room <= behind and behind > 0))
                self.assertNotEqual(naive_across(row, behind + near), naive_across(other, behind + near))
            self.assertEqual(parted, parted_from(other, row))
        self.assertGreater(alike, 50)
        self.assertEqual(parted_from((5, 0, "none", 0, 0, 0, 0), (6, 0, "none", 0, 0, 0, 0)), ZERO)
        self.assertEqual(parted_from((("part", 5), 0, "none", 0, 0, 0, 0), (("part", 6), 0, "none", 0, 0, 0, 0)), ZERO)
        self.assertIsNone(parted_from(ONE, list(ONE)))
        self.assertIsNone(parted_from((5, 5, "none", 0, 0, 0, 0), (3, 5, 4, 0, "auto", 0, 0)))

    def test_is_across(self):
        right = across_of(ONE, (60, 1))
        for thing in (right, list(right), [list(part) for part in right], ((0, 7), (4, 2), (90, 2), (3, 1), (10, 1))):
            self.assertIs(is_across(ONE, (60, 1), thing), True)
        for thing in [None, 5, (), right[:4], right + (ZERO,), (ZERO,) * 5, right[::-1], ((0, 1), (2, 1), (45, 1), (3, 1), 10), "fives", {}, deep_list(2000)]:
            self.assertIs(is_across(ONE, (60, 1), thing), False)
        for bad in NO_FRACTIONS:
            self.assertIs(is_across(ONE, (60, 1), right[:2] + (bad,) + right[3:]), False)

    def test_lists_for_tuples(self):
        row = [["part", 50], 0, "none", ["part", 10], "auto", 0, 0]
        self.assertEqual(across_of(row, [20, 2]), across_of((("part", 50), 0, "none", ("part", 10), "auto", 0, 0), (10, 1)))
        self.assertEqual(in_rooms(row), in_rooms((("part", 50), 0, "none", ("part", 10), "auto", 0, 0)))
        self.assertEqual(row, [["part", 50], 0, "none", ["part", 10], "auto", 0, 0])

    def test_at_the_limits(self):
        row = (("part", 299), 10 ** 4, 9999, "auto", ("part", 300), ("part", 299), 10 ** 4)
        self.assertEqual(across_of(row, (10 ** 17, 3)), tuple(told(part) for part in naive_across(row, Fraction(10 ** 17, 3))))
        for room in rooms_around(in_rooms(row)):
            self.check_room(row, in_rooms(row), room, fits_from(row))

    def test_errors_in_order(self):
        wrong = [None, 5, "seven77", (), ONE[:6], ONE + (0,), {}, deep_list(2000)]
        for word, right, bad in rows_of(LET):
            if word in WORDS:
                place = WORDS.index(word)
                for value in right:
                    in_rooms(ONE[:place] + (value,) + ONE[place + 1:])
                wrong += [ONE[:place] + (value,) + ONE[place + 1:] for value in bad + NEVER + ["as-parent", ("use", "--p")]]
        for thing in wrong:
            for work, more in ((across_of, (None,)), (is_across, (None, None)), (in_rooms, ()), (fits_from, ()), (parted_from, (None,))):
                self.assert_keeps(BadAcross, thing, work, thing, *more)
            self.assert_keeps(BadAcross, thing, parted_from, ONE, thing)
        for room in NO_FRACTIONS + [(-1, 2), 100]:
            self.assert_keeps(BadRoom, room, across_of, ONE, room)
            self.assert_keeps(BadRoom, room, is_across, ONE, room, None)


if __name__ == "__main__":
    unittest.main()
