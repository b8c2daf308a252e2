import unittest
from fractions import Fraction

from naive import Asserts, Dice, deep_list
from pagefall.errors import BadWidth
from pagefall.forms import is_form
from pagefall.refusals import BadForm, BadStretch, BadStretches
from pagefall.stretches import are_stretches, both_stretches, first_width, gathered_stretches, is_stretch, is_width_in, rest_of
from pagefall.stretches import where_below, where_upto
from test_forms import NO_FRACTIONS, some_number, told, worth
from widthwise import are_canonical, holds, some_stretch, turning_widths

ALL = ((0, 1), True, None, False)
NO_WIDTHS = NO_FRACTIONS + [(-1, 2)]
NO_STRETCHES = [None, 5, "abcd", (), ((0, 1), True, (1, 1)), ((0, 1), True, (1, 1), True, True), ((1, 1), True, (1, 2), True),
                ((1, 1), True, (1, 1), False), ((1, 1), False, (1, 1), True), ((2, 2), False, (1, 1), False), ((0, 1), True, None, True),
                ((0, 1), 1, (1, 1), True), ((0, 1), True, (1, 1), 0), ((0, 1), None, (1, 1), True), {0: 1}, deep_list(2000)]
NO_STRETCHES += [(bad, True, (9, 1), True) for bad in NO_WIDTHS] + [((0, 1), True, bad, True) for bad in NO_WIDTHS]


def some_list(dice):
    return gathered_stretches([some_stretch(dice) for _ in range(dice.throw(5))])


class StretchesTest(unittest.TestCase, Asserts):
    def test_what_stretches_are(self):
        for thing in (ALL, [[0, 4], False, None, False], ((1, 2), True, [2, 4], True), ((1, 3), False, (1, 2), False)):
            self.assertIs(is_stretch(thing), True)
        for thing in NO_STRETCHES:
            self.assertIs(is_stretch(thing), False, thing)
            self.assertIs(are_stretches([thing]), False)
            self.assert_raises(BadStretch, 1, gathered_stretches, [ALL, thing, thing])

    def test_what_is_apart(self):
        one, two = ((0, 1), True, (2, 1), False), ((2, 1), False, (3, 1), True)
        self.assertIs(are_stretches([one, two]), True)
        self.assertIs(are_stretches([]), True)
        self.assertIs(are_stretches(([[0, 1], True, (4, 2), False], two)), True)
        for bad in ([two, one], [one, one], [one, ((2, 1), True, (3, 1), True)], [((0, 1), True, (4, 2), True), two], [ALL, two],
                    [one, two, ((3, 1), False, None, False)], [one, ((1, 1), True, (3, 1), True)], None, 5, "ab", {0: one}, [None], one,
                    deep_list(2000)):
            self.assertIs(are_stretches(bad), False, bad)
            for work in (rest_of, first_width):
                self.assert_keeps(BadStretches, bad, work, bad)
            for work in (both_stretches, is_width_in):
                self.assert_keeps(BadStretches, bad, work, bad, None)
            self.assert_keeps(BadStretches, bad, both_stretches, [], bad)
        for width in NO_WIDTHS:
            self.assert_keeps(BadWidth, width, is_width_in, [ALL], width)
        for thing in (None, 5, "ab", {}, {0: ALL}):
            self.assert_raises(BadStretch, 0, gathered_stretches, thing)

    def test_gathered(self):
        self.assertEqual(gathered_stretches([]), [])
        self.assertEqual(gathered_stretches(([(4, 2), True, (6, 2), False], ((3, 1), True, (3, 1), True), ((0, 5), True, (2, 1), False))),
                         [((0, 1), True, (3, 1), True)])
        self.assertEqual(gathered_stretches([((1, 1), False, (2, 1), True), ((1, 1), True, (3, 2), True)]), [((1, 1), True, (2, 1), True)])
        self.assertEqual(gathered_stretches([((2, 1), False, (3, 1), True), ((1, 1), True, (2, 1), False)]),
                         [((1, 1), True, (2, 1), False), ((2, 1), False, (3, 1), True)])
        self.assertEqual(gathered_stretches([ALL, ((5, 1), True, (6, 1), True)]), [ALL])

    def test_all_that_is_told_of_lists(self):
        dice = Dice(41)
        for _ in range(250):
            some = [some_stretch(dice) for _ in range(dice.throw(5))]
            other = some_list(dice)
            one = gathered_stretches(some)
            both, rest = both_stretches(one, other), rest_of(one)
            for row in (one, both, rest):
                self.assertTrue(are_canonical(row) and are_stretches(row) and isinstance(row, list))
            for width in turning_widths(some, other):
                is_in = any(holds(stretch, width) for stretch in some)
                self.assertIs(is_width_in(one, (2 * width[0], 2 * width[1])), is_in)
                self.assertEqual(is_width_in(both, width), is_in and is_width_in(other, width))
                self.assertEqual(is_width_in(rest, width), not is_in)
            first = first_width(one)
            within = [width for width in turning_widths(some) if is_width_in(one, width)]
            self.assertEqual(first, one[0][:2] if one else None)
            if first is not None and first[1]:
                self.assertEqual(within[0], first[0])
            self.assertEqual(rest_of(rest), one)
            self.assertEqual(both_stretches(one, rest), [])

    def test_first_widths(self):
        self.assertIsNone(first_width([]))
        self.assertEqual(first_width([((4, 2), False, (3, 1), True)]), ((2, 1), False))
        self.assertEqual(first_width((([6, 4], True, (3, 2), True),)), ((3, 2), True))

    def test_where_forms_compare(self):
        five, width = ((5, 1), (0, 1)), ((0, 1), (1, 1))
        self.assertEqual(where_upto(five, width), [((5, 1), True, None, False)])
        self.assertEqual(where_below(five, width), [((5, 1), False, None, False)])
        self.assertEqual(where_upto(width, five), [((0, 1), True, (5, 1), True)])
        self.assertEqual(where_below(width, five), [((0, 1), True, (5, 1), False)])
        self.assertEqual(where_upto(width, ((0, 1), (0, 3))), [((0, 1), True, (0, 1), True)])
        self.assertEqual((where_below(width, width), where_upto(width, width)), ([], [ALL]))
        dice = Dice(42)
        for _ in range(200):
            rows = [(told(some_number(dice, 9, 3)), told(some_number(dice, 4, 3))) for _ in range(2)]
            upto, below = where_upto(*rows), where_below(*rows)
            self.assertTrue(len(upto) <= 1 and len(below) <= 1 and are_canonical(upto + below[1:]))
            for at in turning_widths(upto, below):
                one, other = [worth(row, Fraction(*at)) for row in rows]
                self.assertEqual(is_width_in(upto, at), one <= other)
                self.assertEqual(is_width_in(below, at), one < other)
        for bad in (None, 5, (), ((1, 1),), ((1, 0), (1, 1)), deep_list(2000)):
            self.assertFalse(is_form(bad))
            for work in (where_upto, where_below):
                self.assert_keeps(BadForm, bad, work, bad, None)
                self.assert_keeps(BadForm, bad, work, five, bad)

    def test_forty_stretches_of_great_fractions(self):
        large = 10 ** 12
        some = [((large * at + 1, large - at), True, (large * at + at + 2, large - at), False) for at in range(40)]
        one = gathered_stretches(some[::-1])
        self.assertEqual(len(one), 40)
        self.assertEqual(rest_of(rest_of(one)), one)
        self.assertEqual(both_stretches(one, [ALL]), one)
        kept = [list(stretch) for stretch in some]
        gathered_stretches(kept)
        self.assertEqual([tuple(stretch) for stretch in kept], some)


if __name__ == "__main__":
    unittest.main()
