import unittest

from naive import Dice
from pagefall.designs import Design
from pagefall.layouts import layout_at
from pagefall.sheets import Sheet
from pagefall.stretches import first_width, rest_of
from pagefall.twos import alike_widths, first_unlike, unlike_boxes
from pagefall.wide import page_pieces
from plainpage import WORTHS, some_design, some_sheet
from test_layouts import PART, page, rule
from test_wide import EXAMPLE, EXAMPLE_FLOAT
from widthwise import NEAR, Fraction, are_canonical, holds, turning_widths

ALL = ((0, 1), True, None, False)


def other_design(dice, design):
    """A design that is like another one here and there."""
    if dice.throw(4) == 0:
        return some_design(dice, 10, 5)
    more = some_sheet(dice, tuple(WORTHS), 1 + dice.throw(2), (5, 10)).all_rules()[1:]
    return Design(design.own_tree(), Sheet(design.own_sheet().all_rules() + more))


class TwosTest(unittest.TestCase):
    def test_pages_that_are_the_same(self):
        other = Design(EXAMPLE.own_tree(), EXAMPLE.own_sheet())
        self.assertEqual(alike_widths(EXAMPLE, other), [ALL])
        self.assertIsNone(first_unlike(EXAMPLE, other))
        self.assertEqual(unlike_boxes(EXAMPLE, other), {})

    def test_where_they_are_unlike(self):
        one = page([("b", [], [])], rule("b", show="block", width=PART))
        other = page([("b", [], [])], rule("b", show="block", width=10))
        self.assertEqual(alike_widths(one, other), [((20, 1), True, (20, 1), True)])
        self.assertEqual(first_unlike(one, other), ((0, 1), True))
        self.assertEqual(unlike_boxes(one, other), {((0,), 0): ((0, 1), True)})
        held = page([("b", [], [])], rule("b", show="block", width=PART, least=4))
        self.assertEqual(alike_widths(one, held), [((8, 1), True, None, False)])
        longest = page([("b", [], [])], rule("b", show="block", width=PART, most=4))
        self.assertEqual(first_unlike(one, longest), ((8, 1), False))
        self.assertEqual(unlike_boxes(one, longest), {((0,), 0): ((8, 1), False)})
        # The one is all of the other, but for its last box.
        more = page([("b", [], []), ("p", [], [])], rule("b", show="block", width=PART), rule("p", at=(0, 0)))
        self.assertEqual((alike_widths(one, more), alike_widths(more, one)), ([], []))
        self.assertEqual(unlike_boxes(one, more), {((1,), 0): ((0, 1), True)})
        self.assertEqual(list(unlike_boxes(EXAMPLE, EXAMPLE_FLOAT)), [((), 0), ((0,), 0), ((0,), 1), ((1,), 0), ((1,), 1)])

    def test_two_pages_at_all_widths(self):
        dice = Dice(91)
        for _ in range(60):
            one = some_design(dice, 4 + dice.throw(18), 3 + dice.throw(12), ends=(5, 10, 20))
            other = other_design(dice, one)
            alike, firsts = alike_widths(one, other), unlike_boxes(one, other)
            self.assertTrue(are_canonical(alike))
            self.assertEqual(first_unlike(one, other), first_width(rest_of(alike)))
            self.assertEqual(alike == [ALL], page_pieces(one) == page_pieces(other))
            self.assertEqual(list(firsts), sorted(firsts))
            met = {}
            ends = [(width, True, None, False) for width, _ in firsts.values()]
            for width in turning_widths(alike, ends, *[[stretch for stretch, _ in page_pieces(design)] for design in (one, other)]):
                ones, others = layout_at(one, width), layout_at(other, width)
                self.assertEqual(any(holds(stretch, width) for stretch in alike), ones == others)
                rows = [{box[0]: box for box in boxes} for boxes in (ones, others)]
                for name in list(rows[0]) + list(rows[1]):
                    if rows[0].get(name) != rows[1].get(name):
                        met.setdefault(name, width)
            self.assertEqual(set(met), set(firsts))
            for name, width in met.items():
                first, is_in = firsts[name]
                self.assertEqual(is_in, width == first)
                self.assertLessEqual(Fraction(*width) - Fraction(*first), NEAR)


if __name__ == "__main__":
    unittest.main()
