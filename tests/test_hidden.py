import unittest

from naive import Asserts, Dice, deep_list
from pagefall.covers import seen_region
from pagefall.designs import Design
from pagefall.errors import NoElement
from pagefall.hidden import hidden_widths
from pagefall.pictures import painted_page
from pagefall.sheets import Sheet
from pagefall.wide import page_pieces
from plainpage import some_design
from test_layouts import PART, page, rule
from widthwise import are_canonical, holds, turning_widths

ALL = ((0, 1), True, None, False)


def is_hidden(design, path, width):
    """By the picture at a width."""
    picture = painted_page(design, width)
    found = [at for at, shape in enumerate(picture.all_shapes()) if shape[0] == path and shape[5] is not None]
    return not found or seen_region(picture, found[0]) == []


class HiddenTest(unittest.TestCase, Asserts):
    def test_who_is_covered(self):
        design = page([("b", [], []), ("p", [], []), ("q", [], [])], rule("b", show="block", width=PART, height=4, fill="a"),
                      rule("p", at=(0, 0), width=6, height=4, fill="b"), rule("q", at=(6, 0), width=4, height=9, fill="c"))
        self.assertEqual(hidden_widths(design, (0,)), [((0, 1), True, (20, 1), True)])
        self.assertEqual(hidden_widths(design, [1]), [])
        self.assertEqual(hidden_widths(design, ()), [ALL])
        # One below another, and each half of the one.
        halves = page([("b", [], []), ("p", [], []), ("q", [], [])], rule("b", show="block", width=8, height=4, fill="a"),
                      rule("p", at=(0, 0), width=PART, height=2, fill="b"), rule("q", at=(0, 2), width=("part", 80), height=2, fill="c"))
        self.assertEqual(hidden_widths(halves, (0,)), [((16, 1), True, None, False)])

    def test_a_single_width(self):
        # Two neighbours meet at 10 alone: one grows away, the other one comes.
        design = page([("b", [], []), ("p", [], []), ("q", [], [])], rule("b", at=(0, 0), width=10, height=2, fill="a"),
                      rule("p", at=(0, 0), width=PART, height=2, most=5, fill="b"), rule("q", at=(PART, 0), width=5, height=2, fill="c"))
        self.assertEqual(hidden_widths(design, (0,)), [((10, 1), True, (10, 1), True)])

    def test_chains_that_break(self):
        # The second one of a chain goes away from the first one.
        rules = [rule("b", at=(0, 0), width=10, height=2, fill="a"), rule("p", at=(0, 0), width=5, height=2, fill="b")]
        node = [("b", [], []), ("p", [], []), ("q", [], [])]
        self.assertEqual(hidden_widths(page(node, *rules, rule("q", at=(PART, 0), width=10, height=2, fill="c")), (0,)), [((0, 1), True, (10, 1), True)])
        # It comes from the right: a right float, twice as wide as the page.
        falling = page([("q", [], []), ("b", [], []), ("p", [], [])], *rules[:1], rule("p", at=(7, 0), width=3, height=2, fill="b"),
                       rule("q", side="right", width=PART, mright=PART, height=2, fill="c"))
        self.assertEqual(hidden_widths(falling, (1,)), [])
        # Its left end comes nearer as the page grows: it goes from 60 - w to w.
        nearing = page([("b", [], []), ("c", [], [("q", [], [])])], rule("b", at=(10, 0), width=10, height=2, fill="a"), rule("c", show="block", pleft=30),
                       rule("q", side="right", width=("part", 200), height=2, fill="c"))
        self.assertEqual(hidden_widths(nearing, (0,)), [((50, 1), True, None, False)])

    def test_no_box_and_nothing_painted(self):
        gone = (0, [(None, ("b", [], [], None))], {"show": "none"}, (5, 9))
        design = page([("b", [], [("c", [], ["x"])])], rule("b", show="block", height=1, fill="a"), gone)
        # Up to 1 the sign x covers it.
        self.assertEqual(hidden_widths(design, (0,)), [((0, 1), True, (1, 1), True), ((5, 1), True, (9, 1), False)])
        self.assertEqual(hidden_widths(design, (0, 0)), [ALL])
        bare = (0, [(None, ("b", [], [], None))], {"fill": "none"}, (7, None))
        self.assertEqual(hidden_widths(page([("b", [], [])], rule("b", show="block", height=1, fill="a"), bare), (0,)),
                         [((0, 1), True, (0, 1), True), ((7, 1), True, None, False)])
        # No height: it holds no point.
        self.assertEqual(hidden_widths(page([("b", [], [])], rule("b", show="block", fill="a")), (0,)), [ALL])

    def test_layers(self):
        rules = [rule("b", at=(0, 0), width=5, height=5, fill="a"), rule("c", at=(0, 0), width=5, height=5, fill="b")]
        self.assertEqual(hidden_widths(page([("b", [], []), ("c", [], [])], *rules), (0,)), [ALL])
        self.assertEqual(hidden_widths(page([("b", [], []), ("c", [], [])], *rules, rule("b", layer=1)), (1,)), [ALL])
        self.assertEqual(hidden_widths(page([("b", [], []), ("c", [], [])], *rules, rule("b", layer=1)), (0,)), [])

    def test_no_element(self):
        design = page(["a", ("b", [], [])])
        for path in (None, 5, "ab", (0,), (2,), (-1,), (True,), {}, deep_list(2000)):
            self.assert_keeps(NoElement, path, hidden_widths, design, path)

    def test_against_the_picture_at_each_width(self):
        dice = Dice(93)
        turning = 0
        for _ in range(40):
            design = some_design(dice, 4 + dice.throw(20), 3 + dice.throw(18), ends=(5, 10, 20))
            fills = (0, [(None, (None, [], [], dice.pick([None, (2, 0), (2, 1)])))], {"fill": "a"}, None)
            wide = (0, [(None, ("c", [], [], None))], {"side": "right", "width": ("part", 170), "height": 30, "mright": ("part", 40), "layer": 3, "show": "block"}, None)
            design = Design(design.own_tree(), Sheet(design.own_sheet().all_rules() + [fills] + [wide][dice.throw(2):]))
            stretches = [stretch for stretch, _ in page_pieces(design)]
            for path in design.own_tree().all_elements()[::2]:
                found = hidden_widths(design, path)
                self.assertTrue(are_canonical(found))
                turning += found not in ([], [ALL])
                for width in turning_widths(stretches, found)[dice.throw(3)::3]:
                    self.assertEqual(any(holds(stretch, width) for stretch in found), is_hidden(design, path, width))
        self.assertGreater(turning, 20)


if __name__ == "__main__":
    unittest.main()
