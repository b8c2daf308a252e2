import unittest
from fractions import Fraction

from naive import Dice
from pagefall.ratios import ascending, greater_of, is_at_most, is_below, lesser_of, lowest, minus, plus, sum_of, through, times


def told(number):
    number = Fraction(number)
    return (number.numerator, number.denominator)


class RatiosTest(unittest.TestCase):
    def test_as_fractions_reckon(self):
        dice = Dice(3)
        for _ in range(300):
            one, other = [(dice.throw(41) - 20, 1 + dice.throw(9)) for _ in range(2)]
            a, b = Fraction(*one), Fraction(*other)
            self.assertEqual(lowest(*one), told(a))
            self.assertEqual((plus(one, other), minus(one, other), times(one, other)), (told(a + b), told(a - b), told(a * b)))
            if b != 0:
                self.assertEqual(through(one, other), told(a / b))
            self.assertEqual((is_below(one, other), is_at_most(one, other)), (a < b, a <= b))
            self.assertEqual((Fraction(*greater_of(one, other)), Fraction(*lesser_of(one, other))), (max(a, b), min(a, b)))

    def test_several(self):
        dice = Dice(4)
        for many in range(9):
            fractions = [told(Fraction(dice.throw(9) - 4, 1 + dice.throw(3))) for _ in range(many)]
            self.assertEqual(sum_of(fractions), told(sum(Fraction(*part) for part in fractions)))
            self.assertEqual(ascending(fractions), [told(part) for part in sorted({Fraction(*part) for part in fractions})])


if __name__ == "__main__":
    unittest.main()
