import unittest
from fractions import Fraction

from naive import Asserts, Dice, deep_list
from pagefall.designs import Design
from pagefall.errors import BadWidth
from pagefall.layouts import layout_at
from pagefall.refusals import BadAbout, BadWish
from pagefall.stretches import first_width
from pagefall.trees import Tree
from pagefall.sheets import Sheet
from pagefall.wanted import first_where, is_wish, meets_wish, where_about, widths_where
from pagefall.wide import page_pieces, pieces_about
from plainpage import some_design
from test_layouts import NO_WIDTHS, PART, page, rule
from test_wide import EXAMPLE
from widthwise import are_canonical, holds, turning_widths
from wishwise import PlainWish, some_wish

ALL = ((0, 1), True, None, False)


def deep_wish(depth, word="not"):
    wish = ("high", 2)
    for _ in range(depth):
        wish = (word, wish if word == "not" else [wish])
    return wish


class WantedTest(unittest.TestCase, Asserts):
    def test_what_wishes_are(self):
        for wish in [("high", 0), ["lines", [], 3], ("wide", (0, 9), 4), ("within", [1]), ("left", (), (0,)), ("above", (), ()), ("over", [], ()),
                     ("there", (5, 5)), ("not", ["high", 1]), ("all", ()), ["any", [("high", 1), ["not", ("there", ())]]], deep_wish(50),
                     deep_wish(3000), deep_wish(3000, "all")]:
            self.assertIs(is_wish(wish), True)
        for wish in [None, 5, "high", (), ("high",), ("high", -1), ("high", True), ("high", (1, 1)), ("high", 1, 2), ("lines", (), -1),
                     ("lines", 3, ()), ("wide", ()), ("wide", (-1,), 4), ("within", None), ("left", ()), ("left", (), 5), ("not", ()),
                     ("not", ("high", 1), ("high", 2)), ("all", ("high", 1)), ("any", None), ("all", [("high", 1), None]), ("low", 1), (5, 1),
                     (None, ()), ({}, 1), {"high": 1}, ("not", deep_list(3000)), deep_list(3000), ("there", deep_list(3000)), (["high"], 1)]:
            self.assertIs(is_wish(wish), False, wish)
            self.assert_keeps(BadWish, wish, meets_wish, EXAMPLE, wish, None)
            for work in (widths_where, first_where):
                self.assert_keeps(BadWish, wish, work, EXAMPLE, wish)
            self.assert_keeps(BadWish, wish, where_about, page([], root={"width": 4}), (5, 1), (), "width", wish)
        for width in NO_WIDTHS:
            self.assert_keeps(BadWidth, width, meets_wish, EXAMPLE, ("high", 1), width)
            self.assert_keeps(BadWidth, width, where_about, EXAMPLE, width, (9,), "width", None)
        self.assert_raises(BadAbout, ((), "width"), where_about, EXAMPLE, (5, 1), (), "width", None)

    def test_the_example(self):
        self.assertEqual(first_where(EXAMPLE, ("high", 2)), ((5, 1), True))
        self.assertEqual(widths_where(EXAMPLE, ("not", ("high", 2))), [((0, 1), True, (5, 1), False)])
        self.assertIsNone(first_where(EXAMPLE, ("high", 1)))
        self.assertEqual(widths_where(EXAMPLE, ("lines", (), 1)), [((5, 1), True, None, False)])

    def test_each_wish(self):
        design = page([("b", [], []), ("c", [], ["aa"]), ("p", [], ["bb"])], rule("b", show="block", width=PART, height=3),
                      rule("c", show="block", mleft=6, mright=0, height=0), rule("p", at=(9, 1), width=4))
        rows = [(("high", 3), [ALL]), (("high", 2), []), (("lines", (1,), 1), [ALL]), (("lines", (1,), 0), []), (("lines", (), 9), []),
                (("wide", (0,), 5), [((10, 1), True, None, False)]), (("wide", (0,), 0), [ALL]),
                (("within", (1,)), [((6, 1), True, None, False)]), (("within", ()), [ALL]), (("within", (2,)), [((13, 1), True, None, False)]),
                (("left", (0,), (1,)), [((0, 1), True, (12, 1), True)]), (("left", (1,), (2,)), [((0, 1), True, (9, 1), True)]),
                (("above", (0,), (1,)), [ALL]), (("above", (1,), (0,)), []), (("above", (0,), (2,)), []),
                (("over", (0,), (2,)), [((18, 1), False, None, False)]), (("over", (0,), (1,)), []), (("over", (0,), (0,)), [((0, 1), False, None, False)]),
                (("there", (2,)), [ALL]), (("there", (1, 0)), []), (("there", (9,)), []), (("wide", (7,), 0), []), (("not", ("wide", (7,), 0)), [ALL]),
                (("left", (0,), (7,)), []), (("above", (7,), (0,)), []), (("within", (1, 0)), []), (("all", []), [ALL]), (("any", []), []),
                (("all", [("wide", (0,), 5), ("not", ("wide", (0,), 8))]), [((10, 1), True, (16, 1), False)]),
                (("any", [("left", (0,), (1,)), ("wide", (0,), 10)]), [((0, 1), True, (12, 1), True), ((20, 1), True, None, False)])]
        for wish, stretches in rows:
            self.assertEqual(widths_where(design, wish), stretches, wish)
            self.assertEqual(first_where(design, wish), first_width(stretches))

    def test_lines_of_unlike_sizes(self):
        design = page(["a ", ("b", [], ["b"]), " c d"], rule("b", size=4))
        self.assertEqual(widths_where(design, ("lines", (), 1)), [((10, 1), True, None, False)])
        self.assertEqual(widths_where(design, ("lines", (), 3)), [((3, 1), True, None, False)])

    def test_conditions_part_where_a_box_stands(self):
        # The element is a float in the root's run below 10 and an item-like block from there on; its box is the same.
        sheet = [rule(None, size=1), rule("o", show="block", width=4), rule("p", at=(0, 0), width=6),
                 (0, [(None, ("i", [], [], None))], {"show": "block"}, (10, None))]
        design = Design(Tree(("page", [], [("o", [], [("i", [], [("p", [], [])])])])), Sheet(sheet))
        self.assertEqual(widths_where(design, ("within", (0, 0, 0))), [])
        # From 10 on the block i, 4 wide, holds it.
        self.assertEqual(widths_where(design, ("there", (0, 0))), [((10, 1), True, None, False)])

    def test_wishes_at_all_widths(self):
        dice = Dice(81)
        for _ in range(45):
            design = some_design(dice, 4 + dice.throw(20), 3 + dice.throw(14), ends=(5, 10, 20))
            pieces = page_pieces(design)
            paths = [box[0][0] for box in layout_at(design, (dice.throw(40), 1))] + [(9, 9)]
            wishes = [some_wish(dice, paths, 2) for _ in range(5)]
            stretches = [widths_where(design, wish) for wish in wishes]
            self.assertTrue(all(are_canonical(row) for row in stretches))
            self.assertEqual([first_where(design, wish) for wish in wishes], [first_width(row) for row in stretches])
            for width in turning_widths([stretch for stretch, _ in pieces], *stretches):
                there = PlainWish(design, width)
                for wish, row in zip(wishes, stretches):
                    is_met = any(holds(stretch, width) for stretch in row)
                    self.assertEqual(there.is_met(wish), is_met, (wish, width))
                    self.assertIs(meets_wish(design, wish, width), is_met)

    def test_where_about(self):
        design = page([("b", [], ["aa bb"]), ("c", [], [])], rule("b", show="block", mleft=3, pright=1), rule("c", show="block", width=8))
        self.assertEqual(where_about(design, (20, 1), (0,), "mleft", ("lines", (0,), 1)), [((0, 1), True, (14, 1), True)])
        self.assertEqual(where_about(design, (20, 1), [1], "width", ("within", (1,))), [((0, 1), True, (20, 1), True)])
        self.assertEqual(where_about(design, (20, 1), (0,), "pright", ("not", ("wide", (0,), 18))), [((0, 1), True, (18, 1), False)])
        dice = Dice(82)
        asked = 0
        while asked < 25:
            design = some_design(dice, 4 + dice.throw(12), 3 + dice.throw(14))
            width = (dice.throw(60), 1)
            path, name = dice.pick(design.own_tree().all_elements()), dice.pick(["width", "mleft", "pright", "least"])
            try:
                pieces = pieces_about(design, width, path, name)
            except BadAbout:
                continue
            asked += 1
            wish = some_wish(dice, [box[0][0] for box in pieces[0][1]], 2)
            row = where_about(design, width, path, name, wish)
            self.assertTrue(are_canonical(row))
            # One declaration that is stronger than all, at this element alone.
            step = [(None, (None, ["only"], [], None))]
            tree = design.own_tree().with_class(path, "only")
            for length in {at[0] // at[1] for at in turning_widths([stretch for stretch, _ in pieces], row)}:
                rules = [(level, selector, told, condition) for level, selector, told, condition in design.own_sheet().all_rules()]
                if any(told.get(word) == "as-parent" for _, _, told, _ in rules for word in told):
                    continue
                other = Design(tree, Sheet(rules + [(3, step, {name: length}, None)]))
                self.assertEqual(PlainWish(other, width).is_met(wish), any(holds(stretch, (length, 1)) for stretch in row))

    def test_wishes_fifty_deep_at_many_pieces(self):
        words = " ".join("a" * (1 + at % 9) for at in range(40))
        design = page([words, ("b", [], [])], rule("b", show="block", width=PART, height=4))
        pieces = page_pieces(design)
        self.assertGreater(len(pieces), 30)
        wish = ("wide", (1,), 9)
        for at in range(49):
            wish = [("not", wish), ("all", [wish, ("high", 900 + at)]), ("any", [wish, ("there", (5,))])][at % 3]
        found = widths_where(design, wish)
        self.assertEqual(found, widths_where(design, ("not", ("wide", (1,), 9))))
        self.assertEqual(found, [((0, 1), True, (18, 1), False)])
        self.assertEqual(Fraction(*found[0][2]), 18)


if __name__ == "__main__":
    unittest.main()
