import unittest
from itertools import permutations

from naive import Asserts, Dice, deep_list
from pagefall.refusals import BadMargins, BadRows
from pagefall.stacks import greatest_order, greatest_stack, is_least_order, least_stack, stack_of

FOUR = (least_stack, greatest_stack, is_least_order, greatest_order)


def sum_of_gaps(margins):
    gaps = [max(pair) for pair in zip([0, *margins], [*margins, 0])]
    return sum(gaps) if margins else 0


class StacksTest(unittest.TestCase, Asserts):
    def test_the_example(self):
        self.assertEqual(stack_of([(3, 10, 5), (4, 0, 0), (2, 6, 1)]), ([3, 18, 20], 27))
        self.assertEqual((least_stack([1, 2, 3, 4]), greatest_stack([1, 2, 3, 4])), (14, 16))
        self.assertEqual(sum_of_gaps([4, 1, 3, 2]), 16)

    def test_stacks(self):
        self.assertEqual(stack_of([]), ([], 0))
        self.assertEqual(stack_of(([3, 0, 7],)), ([3], 10))
        # Nothing goes through one of height 0.
        self.assertEqual(stack_of([(0, 5, 4), (9, 0, 8), (2, 5, 0)]), ([0, 14, 22], 27))
        self.assertEqual(stack_of([(0, 0, 0)] * 3), ([0, 0, 0], 0))
        rows = [(at % 5, at, at % 7) for at in range(40)]
        begins, whole = stack_of(rows)
        for at in range(1, 40):
            self.assertEqual(begins[at] - begins[at - 1] - rows[at - 1][1], max(rows[at - 1][2], rows[at][0]))
        taller = rows[:20] + [(0, 10 ** 4, 6)] + rows[21:]
        moved, height = stack_of(taller)
        self.assertEqual(moved[:21], begins[:21])
        self.assertEqual({one - other for one, other in zip(moved[21:], begins[21:])}, {height - whole})

    def test_orders_by_all_ways(self):
        dice = Dice(12)
        for many in range(7):
            for _ in range(25):
                margins = [dice.throw(5) for _ in range(many)]
                sums = [sum_of_gaps(order) for order in permutations(margins)]
                self.assertEqual((least_stack(margins), greatest_stack(margins)), (min(sums), max(sums)))
                self.assertIs(is_least_order(margins), sum_of_gaps(margins) == min(sums))
                order = greatest_order(tuple(margins))
                self.assertEqual(sorted(order), list(range(many)))
                self.assertEqual(sum_of_gaps([margins[at] for at in order]), max(sums))
                self.assertEqual(order, greatest_order(margins))

    def test_at_the_limits(self):
        margins = [(at * 7919) % 10 ** 4 for at in range(40)]
        order = greatest_order(margins)
        self.assertEqual(sum_of_gaps([margins[at] for at in order]), greatest_stack(margins))
        self.assertEqual(sum_of_gaps(sorted(margins)), least_stack(margins))
        self.assertIs(is_least_order(sorted(margins)), True)
        self.assertIs(is_least_order(sorted(margins[:20]) + sorted(margins[20:])[::-1]), True)
        self.assertIs(is_least_order([margins[at] for at in order]), False)

    def test_errors(self):
        for thing in (None, 5, "rows", {}, {0: (1, 1, 1)}):
            self.assert_raises(BadRows, 0, stack_of, thing)
            for work in FOUR:
                self.assert_raises(BadMargins, 0, work, thing)
        for bad in (None, 5, (), (1, 1), (1, 1, 1, 1), (1, -1, 1), (True, 1, 1), (1, 1, None), "abc", deep_list(2000)):
            self.assert_raises(BadRows, 1, stack_of, [(1, 1, 1), bad, None])
        for bad in (None, -1, True, "1", (1,), (1, 1), 1.5, deep_list(2000)):
            for work in FOUR:
                self.assert_raises(BadMargins, 2, work, (1, 0, bad, -1))

    def test_what_was_passed_stays(self):
        margins, rows = [3, 1, 2], [[1, 2, 3], (4, 5, 6)]
        for work in FOUR:
            work(margins)
        stack_of(rows)[0].clear()
        self.assertEqual((margins, rows), ([3, 1, 2], [[1, 2, 3], (4, 5, 6)]))


if __name__ == "__main__":
    unittest.main()
