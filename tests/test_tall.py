import unittest
from fractions import Fraction

from naive import Dice
from pagefall.layouts import height_at, layout_at, sticking_out
from pagefall.tall import lowest_height, roomy_from, settled_from, taller_though_wider
from pagefall.wide import page_pieces
from plainpage import some_design
from test_layouts import PART, page, rule
from test_wide import EXAMPLE, EXAMPLE_FLOAT
from widthwise import are_canonical, holds, turning_widths

ALL = ((0, 1), True, None, False)
BEHIND = (10 ** 12, 1)


def is_from(width, first):
    """Whether a width is one of those from a first one on, this itself if it is in."""
    there, begin = Fraction(*width), Fraction(*first[0])
    return there > begin or there == begin and first[1]


def level(design, width):
    return [(box[0], box[1], box[3], box[5]) for box in layout_at(design, width)]


class TallTest(unittest.TestCase):
    def test_the_example(self):
        self.assertEqual(settled_from(EXAMPLE), ((5, 1), True))
        self.assertEqual(roomy_from(EXAMPLE), ((2, 1), True))
        self.assertEqual(lowest_height(EXAMPLE), (2, [((5, 1), True, None, False)]))
        self.assertIsNone(taller_though_wider(EXAMPLE))
        self.assertEqual((lowest_height(EXAMPLE_FLOAT)[0], settled_from(EXAMPLE_FLOAT)), (2, ((10, 1), True)))

    def test_always_and_never(self):
        still = page([("b", [], [])], rule("b", show="block", width=PART, height=4))
        self.assertEqual((settled_from(still), roomy_from(still)), (((0, 1), True), ((0, 1), True)))
        self.assertEqual(lowest_height(still), (4, [ALL]))
        out = page([("b", [], [])], rule("b", show="block", width=("part", 120)))
        self.assertIsNone(roomy_from(out))
        # At the width 0 alone nothing sticks out, but behind it all does.
        self.assertEqual(sticking_out(out, (0, 1)), [])
        placed = page([("b", [], [])], rule("b", at=(-0, -3), mleft=3, width=2))
        self.assertEqual(roomy_from(placed), ((5, 1), True))

    def test_taller_though_wider(self):
        # [10.6]: 4 and 10 at 15, 10 and 10 at 17.
        design = page([("a", [], ["aaaaa "]), ("b", [], ["b b"])], rule("a", size=2), rule("b", size=5))
        pieces = page_pieces(design)
        heights = [boxes[0][5] for _, boxes in pieces]
        one, other = taller_though_wider(design)
        self.assertEqual((heights[one], heights[other]), (14, 20))
        self.assertEqual(other, min(at for at in range(len(heights)) if any(height < heights[at] for height in heights[:at])))
        # The first j, and with it the first i: not the neighbour.
        steps = page([("b", [], [])], rule("b", show="block", height=3), *[(0, [(None, ("b", [], [], None))], {"height": height}, (low, low + 5))
                                                                        for low, height in ((5, 9), (10, 2), (15, 4), (20, 9))])
        self.assertEqual([boxes[0][5] for _, boxes in page_pieces(steps)], [3, 9, 2, 4, 9, 3])
        self.assertEqual(taller_though_wider(steps), (0, 1))
        falling = page([("b", [], [])], rule("b", show="block", height=3), *[(0, [(None, ("b", [], [], None))], {"height": height}, (low, low + 5))
                                                                          for low, height in ((0, 9), (5, 8), (10, 5), (15, 7))])
        self.assertEqual(taller_though_wider(falling), (2, 3))
        self.assertEqual(lowest_height(falling), (3, [((20, 1), True, None, False)]))

    def test_at_all_widths(self):
        dice = Dice(92)
        for _ in range(60):
            design = some_design(dice, 4 + dice.throw(20), 3 + dice.throw(14), ends=(5, 10, 20))
            pieces = page_pieces(design)
            settled, roomy, (least, where) = settled_from(design), roomy_from(design), lowest_height(design)
            self.assertTrue(are_canonical(where))
            marks = [(first[0], True, None, False) for first in (settled, roomy) if first is not None]
            widths = turning_widths([stretch for stretch, _ in pieces], where, marks)
            heights = [height_at(design, width) for width in widths]
            self.assertEqual(min(heights), least)
            last = level(design, BEHIND)
            for width, height in zip(widths, heights):
                self.assertEqual(any(holds(stretch, width) for stretch in where), height == least)
                if is_from(width, settled):
                    self.assertEqual(level(design, width), last)
                if roomy is not None and is_from(width, roomy):
                    self.assertEqual(sticking_out(design, width), [])
            self.check_ends(design, widths, settled, roomy, last)
            rising = any(heights[at] < heights[later] for later in range(len(heights)) for at in range(later))
            self.assertEqual(taller_though_wider(design) is not None, rising)

    def check_ends(self, design, widths, settled, roomy, last):
        """That neither begins earlier than it is told."""
        ahead = [width for width in widths if not is_from(width, settled)]
        self.assertEqual(ahead == [], settled == ((0, 1), True))
        self.assertTrue(ahead == [] or level(design, ahead[-1]) != last)
        if roomy is None:
            self.assertNotEqual(sticking_out(design, BEHIND), [])
            return
        ahead = [width for width in widths if not is_from(width, roomy)]
        self.assertTrue(ahead == [] or sticking_out(design, ahead[-1]) != [])


if __name__ == "__main__":
    unittest.main()
