import unittest
from fractions import Fraction

from naive import Asserts, Dice, deep_list
from pagefall.errors import BadWidth
from pagefall.forms import form_sum, form_times, form_worth, greatest_form, is_form, least_form
from pagefall.refusals import BadForm, BadForms, BadFraction

NO_FRACTIONS = [None, 5, True, (), (1,), (1, 2, 3), (1, 0), (1, -2), (True, 1), (1, True), (1.5, 1), "12", {1: 1}, deep_list(2000), ((1, 1), (1, 1))]


def told(number):
    number = Fraction(number)
    return (number.numerator, number.denominator)


def form(a, b):
    return (told(a), told(b))


def worth(row, width):
    return Fraction(*row[0]) + Fraction(*row[1]) * width


def some_number(dice, top, bottom):
    return Fraction(dice.throw(2 * top + 1) - top, 1 + dice.throw(bottom))


class FormsTest(unittest.TestCase, Asserts):
    def test_what_forms_are(self):
        for thing in [((0, 1), (0, 1)), [[-3, 6], (7, 2)], ((-(10 ** 12), 10 ** 12), (1, 1))]:
            self.assertIs(is_form(thing), True)
        wrong = [None, 5, (), ((1, 1),), ((1, 1), (1, 1), (1, 1)), "ab", {(1, 1): (1, 1)}, deep_list(2000)]
        wrong += [(bad, (1, 1)) for bad in NO_FRACTIONS] + [((1, 1), bad) for bad in NO_FRACTIONS]
        for thing in wrong:
            self.assertIs(is_form(thing), False, thing)
            for work in (form_worth, form_sum, form_times):
                self.assert_keeps(BadForm, thing, work, thing, None)
            self.assert_keeps(BadForm, thing, form_sum, ((0, 1), (0, 1)), thing)

    def test_worths_sums_and_shares(self):
        self.assertEqual(form_worth(((2, 4), [6, 4]), (8, 6)), (5, 2))
        self.assertEqual(form_worth(form(-3, 1), (0, 7)), (-3, 1))
        self.assertEqual(form_sum(form(Fraction(1, 2), -1), [[2, 4], [4, 2]]), form(1, 1))
        self.assertEqual(form_times(((4, 6), (-3, 9)), (-6, 4)), form(-1, Fraction(1, 2)))
        self.assertEqual(form_times(form(3, 4), (0, 5)), form(0, 0))
        dice = Dice(2)
        for _ in range(200):
            one, other = [form(some_number(dice, 99, 9), some_number(dice, 99, 9)) for _ in range(2)]
            width, share = abs(some_number(dice, 50, 7)), some_number(dice, 50, 7)
            self.assertEqual(form_worth(one, told(width)), told(worth(one, width)))
            self.assertEqual(form_worth(form_sum(one, other), told(width)), told(worth(one, width) + worth(other, width)))
            self.assertEqual(form_worth(form_times(one, told(share)), told(width)), told(worth(one, width) * share))

    def test_errors_behind_those_of_forms(self):
        right = form(1, 2)
        for thing in NO_FRACTIONS:
            self.assert_keeps(BadWidth, thing, form_worth, right, thing)
            self.assert_keeps(BadFraction, thing, form_times, right, thing)
        self.assert_raises(BadWidth, (-1, 3), form_worth, right, (-1, 3))
        self.assertEqual(form_times(right, (-1, 3)), form(Fraction(-1, 3), Fraction(-2, 3)))

    def test_greatest_and_least(self):
        low, high = form(5, 0), form(0, 1)
        zero = (0, 1)
        self.assertEqual(greatest_form([high, low]), [((zero, True, (5, 1), True), low), (((5, 1), False, None, False), high)])
        self.assertEqual(least_form([low, high]), [((zero, True, (5, 1), True), high), (((5, 1), False, None, False), low)])
        self.assertEqual(greatest_form(([[4, 2], (3, 3)],)), [((zero, True, None, False), form(2, 1))])
        # At width 0 alone others are as great; three meet in one point; one never is the greatest.
        self.assertEqual(greatest_form([form(0, -1), form(0, 1), form(0, 0)]), [((zero, True, None, False), form(0, 1))])
        self.assertEqual(least_form([form(0, 1), form(0, -1), form(0, 0)]), [((zero, True, None, False), form(0, -1))])
        self.assertEqual(greatest_form([form(4, 0), form(2, 1), form(0, 2), form(1, 1)]), [((zero, True, (2, 1), True), form(4, 0)), (((2, 1), False, None, False), form(0, 2))])
        self.assertEqual(greatest_form([low, low]), [((zero, True, None, False), low)])

    def check(self, forms):
        for work, turn in ((greatest_form, 1), (least_form, -1)):
            pieces = work(forms)
            self.assertEqual(pieces[0][0][:2], ((0, 1), True))
            self.assertEqual(pieces[-1][0][2:], (None, False))
            for (stretch, row), (following, other) in zip(pieces, pieces[1:]):
                self.assertEqual(following[:2], (stretch[2], False))
                self.assertIs(stretch[3], True)
                end = Fraction(*stretch[2])
                self.assertLess(Fraction(*stretch[0]), end)
                self.assertEqual(worth(row, end), worth(other, end))
                self.assertLess(turn * Fraction(*row[1]), turn * Fraction(*other[1]))
            for (low, _, high, _), row in pieces:
                self.assertIn(row, forms)
                for width in self.widths(low, high):
                    self.assertEqual(turn * worth(row, width), max(turn * worth(other, width) for other in forms))

    def widths(self, low, high):
        low = Fraction(*low)
        if high is None:
            return [low, low + 1, low + 10 ** 30]
        return [low, (low + Fraction(*high)) / 2, Fraction(*high)]

    def test_thrown_forms(self):
        dice = Dice(8)
        for _ in range(150):
            self.check([form(some_number(dice, 20, 3), some_number(dice, 5, 3)) for _ in range(1 + dice.throw(8))])

    def test_at_the_limits(self):
        dice = Dice(4)
        most = 10 ** 12
        forms = [form(Fraction(-at * at * most, 1600), Fraction(at * 10 ** 9, most - at)) for at in range(40)]
        self.assertGreater(len(greatest_form(forms)), 20)
        self.check(forms)
        self.check([form(some_number(dice, most, most), some_number(dice, most, most)) for _ in range(40)])

    def test_bad_lists_and_what_stays(self):
        for thing in (None, 5, "ab", {}, [], (), {0: form(1, 1)}):
            self.assert_raises(BadForms, 0, greatest_form, thing)
            self.assert_raises(BadForms, 0, least_form, thing)
        for bad in (None, ((1, 1),), ((1, 0), (1, 1)), [1, 1]):
            self.assert_raises(BadForms, 1, greatest_form, [form(1, 1), bad, None])
            self.assert_raises(BadForms, 2, least_form, (form(1, 1), form(1, 2), bad))
        forms = [[[2, 4], [2, 1]], [[1, 1], [0, 5]]]
        greatest_form(forms).clear()
        self.assertEqual(forms, [[[2, 4], [2, 1]], [[1, 1], [0, 5]]])
        self.assertEqual(len(greatest_form(forms)), 2)


if __name__ == "__main__":
    unittest.main()
