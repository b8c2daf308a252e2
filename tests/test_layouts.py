import unittest
from fractions import Fraction

from naive import Asserts, Dice, deep_list
from pagefall.boxes import all_boxes
from pagefall.columns import Columns
from pagefall.designs import Design
from pagefall.errors import BadWidth
from pagefall.faults import first_fault
from pagefall.layouts import box_with, height_at, layout_at, lines_at, sticking_out
from pagefall.refusals import NoBox, NoLines
from pagefall.sheets import Sheet
from pagefall.trees import Tree
from plainpage import PlainPage, some_design, told
from test_forms import NO_FRACTIONS

NO_WIDTHS = NO_FRACTIONS + [(-1, 2)]
ZERO = (0, 1)
PART = ("part", 50)


def rule(name, **declarations):
    return (0, [(None, (name, [], [], None))], declarations, None)


def page(children, *rules, root=()):
    """A design of a root with children; all signs have the size 1 where no rule tells another one."""
    return Design(Tree(("page", [], list(children))), Sheet([rule(None, size=1), rule("page", **dict(root))] + list(rules)))


def places(design, width, *paths):
    """x, y, width, height of the boxes of some paths at an integer width, fractions that are integers as such."""
    found = []
    for path in paths:
        _, _, x, y, wide, height = box_with(design, (width, 1), path if path and isinstance(path[0], tuple) else (path, 0))
        found.append(tuple(part[0] if isinstance(part, tuple) and part[1] == 1 else part for part in (x, y, wide, height)))
    return found if len(found) > 1 else found[0]


class LayoutsTest(unittest.TestCase, Asserts):
    def test_designs(self):
        tree, sheet = Tree(("a", ["k", "b"], ["so"])), Sheet([rule("a", width=5)])
        design = Design(tree, sheet)
        self.assertTrue(design.own_tree() == tree and design.own_sheet() == sheet)
        self.assertTrue(design == Design(sheet=Sheet(sheet.all_rules()), tree=Tree(("a", ["b", "k"], ("so",)))))
        for other in (Design(tree, Sheet([])), Design(Tree(("a", [], ["so"])), sheet), tree, sheet, None, 5, (tree, sheet)):
            self.assertFalse(design == other)

    def test_the_root(self):
        design = page([], root={"mleft": 3, "mtop": 4, "mbottom": 9, "pleft": 1, "ptop": 2, "pbottom": 5})
        self.assertEqual(layout_at(design, (40, 2)), [(((), 0), "lines", (3, 1), 4, (17, 1), 7)])
        self.assertEqual(height_at(design, (20, 1)), 11)
        self.assertEqual(sticking_out(design, (20, 1)), [])
        self.assertEqual(layout_at(page([], root={"show": "row"}), ZERO), [(((), 0), "row", ZERO, 0, ZERO, 0)])
        self.assertEqual(layout_at(page([], root={"show": "none"}), ZERO), [(((), 0), "lines", ZERO, 0, ZERO, 0)])
        # A root that is told wider than the page stands in no box, so it does not stick out.
        self.assertEqual(sticking_out(page([], root={"width": 50}), (20, 1)), [])

    def test_blocks(self):
        node = [("b", [], []), "aa", ("c", [], [])]
        design = page(node, rule("b", show="block", height=5, mtop=2, mbottom=3, pleft=1, ptop=1, width=PART, mleft="auto"),
                      rule("c", show="block", mtop=7, pright=4, height=1), root={"ptop": 1, "pleft": 2})
        # What auto margins get: 18 - 1 - 9 is left of the room.
        self.assertEqual(places(design, 20, (0,)), (10, 3, 10, 6))
        self.assertEqual(places(design, 20, ((), 2), ((1,), 0)), [(2, 12, 18, 2), (2, 12, 2, 2)])
        self.assertEqual(places(design, 20, (2,), ()), [(2, 21, 18, 1), (0, 0, 20, 22)])
        self.assertEqual(height_at(design, (20, 1)), 22)
        # A told height stands; what is in it may stick out below.
        told_high = page(node, rule("b", show="block", height=50), rule("c", show="block", height=2), root={"height": 3})
        self.assertEqual((height_at(told_high, (20, 1)), places(told_high, 20, (2,))), (3, (0, 52, 20, 2)))

    def test_pieces_of_texts(self):
        design = page([" aa", ("b", [], ["b c"]), " dd "], rule("b", size=3))
        # "aab" is one word, 5 wide and 6 high; behind it a blank of 3, "c", a blank of 1, "dd".
        self.assertEqual([box[:1] + box[2:] for box in layout_at(design, (14, 1))[1:]], [
            (((0,), 0), ZERO, 4, (2, 1), 2), (((1, 0), 0), (2, 1), 0, (9, 1), 6), (((2,), 0), (12, 1), 4, (2, 1), 2)])
        self.assertEqual([box[:1] + box[2:] for box in layout_at(design, (13, 1))[1:]], [
            (((0,), 0), ZERO, 4, (2, 1), 2), (((1, 0), 0), (2, 1), 0, (9, 1), 6), (((2,), 0), ZERO, 6, (2, 1), 2)])
        self.assertEqual([box[0] for box in layout_at(design, (7, 1))[1:]], [((0,), 0), ((1, 0), 0), ((1, 0), 1), ((2,), 0)])
        self.assertEqual(lines_at(design, (13, 1), ()), [["aab", "c"], ["dd"]])
        self.assertEqual({box[1] for box in layout_at(design, (7, 1))[1:]}, {"text"})

    def test_lines_are_laid_by_align(self):
        node = ["aa", ("b", [], ["c"]), "dd"]
        for align, left in (("left", 0), ("mid", Fraction(17, 2)), ("right", 17)):
            # Of a nameless box, that of the element whose path its id has.
            design = page(node, rule("b", show="block", align="left"), root={"align": align})
            _, _, x, _, _, _ = box_with(design, (19, 1), ((0,), 0))
            self.assertEqual(x, told(left))
            self.assertEqual(box_with(design, (19, 1), ((1, 0), 0))[2], ZERO)
            self.assertEqual(box_with(design, (1, 1), ((0,), 0))[2], ZERO)

    def test_floats(self):
        node = [("f", [], ["aa b"]), "cc dd"]
        design = page(node, rule("f", side="right", mleft="auto", mright=1, pleft=2, mtop=3, mbottom=4))
        # As wide as its wish; auto margins are 0; it takes 7 x 9.
        self.assertEqual(places(design, 20, (0,), ((1,), 0)), [(13, 3, 6, 2), (0, 0, 5, 2)])
        self.assertEqual(height_at(design, (20, 1)), 9)
        # At most what margins and pads leave, at least its need.
        self.assertEqual(places(design, 6, (0,)), (0, 3, 5, 4))
        self.assertEqual(places(design, 2, (0,)), (-3, 3, 4, 4))
        held = page(node, rule("f", side="left", least=7))
        self.assertEqual(places(held, 20, (0,), ((1,), 0)), [(0, 0, 7, 2), (7, 0, 5, 2)])
        self.assertEqual(places(page(node, rule("f", side="left", most=1)), 20, (0,))[2], 1)
        self.assertEqual(places(page(node, rule("f", side="left", width=PART, most=9)), 20, (0,))[2], 9)
        # Its width within the pads is the share; none of its margins gives way.
        wide = page(node, rule("f", side="left", width=("part", 200), mright="auto"))
        self.assertEqual(places(wide, 10, (0,), ((1,), 0)), [(0, 0, 20, 2), (0, 2, 5, 2)])
        self.assertEqual(sticking_out(wide, (10, 1)), [((0,), 0)])

    def test_rows(self):
        node = [("a", [], []), "cc d", ("b", [], [])]
        rules = [rule("page", show="row", gap=2), rule("a", base=10, grow=1, mleft=1, pright=2, mtop=3, height=4, mbottom=1),
                 rule("b", width=PART, shrink=3, mright="auto")]
        design = page(node, *rules)
        # 40: the nameless one wishes 4, b has 20; gaps, margins and pads are 7: nothing is left for a to grow by below 41.
        self.assertEqual(places(design, 82, (0,), ((), 2), (2,)), [(1, 3, 32, 4), (35, 0, 4, 2), (41, 0, 41, 0)])
        self.assertEqual(height_at(design, (82, 1)), 8)
        # 20: 10, 4 and 10 into 13: a level of -11/5.
        wide = [box_with(design, (20, 1), box)[4] for box in (((0,), 0), ((), 2), ((2,), 0))]
        self.assertEqual(wide, [told(12 - Fraction(11, 5)), told(4 - Fraction(11, 5)), told(10 - Fraction(33, 5))])
        # What is left over stands on the right.
        self.assertEqual(places(page([("b", [], [])], rule("page", show="row"), rule("b", width=5)), 50, (0,)), (0, 0, 5, 0))
        # A most below the least counts as the least.
        self.assertEqual(places(page([("b", [], [])], rule("page", show="row"), rule("b", width=5, least=9, most=3)), 50, (0,))[2], 9)
        grown = page([("b", [], []), ("c", [], [])], rule("page", show="row"), rule("b", width=5, least=9, most=3, grow=1), rule("c", width=5, grow=1))
        self.assertEqual(places(grown, 50, (0,), (1,)), [(0, 0, 9, 0), (9, 0, 41, 0)])
        # An auto base takes the width, this taken as auto the wish, not held.
        auto = page([("b", [], ["aa b"])], rule("page", show="row"), rule("b", shrink=0, most=99))
        self.assertEqual(places(auto, 1, (0,))[2], 4)

    def test_rows_that_wrap(self):
        node = [("a", [], []) for _ in range(4)]
        rules = [rule("page", show="row", wrap="yes", gap=2), rule("a", base=6, height=3, mleft=1, pright=1, grow=1, mtop=1, mbottom=1)]
        design = page(node, *rules)
        # Each takes 8; two of them and a gap 18.
        self.assertEqual(places(design, 20, (0,), (1,), (2,)), [(1, 1, 8, 3), (12, 1, 8, 3), (1, 8, 8, 3)])
        self.assertEqual(height_at(design, (20, 1)), 12)
        self.assertEqual(places(design, 17, (1,), (3,)), [(1, 8, 16, 3), (1, 22, 16, 3)])
        self.assertEqual(height_at(page([], *rules), (17, 1)), 0)
        # A table that is wider than its size pushes what comes behind it.
        table = page([("t", [], [("s", [], [("c", [], ["aaaaa"])])]), ("a", [], [])], rule("page", show="row", gap=1),
                     rule("t", show="table", base=2, shrink=0, pleft=1), rule("a", base=3, shrink=0))
        self.assertEqual(places(table, 50, (0,), (1,)), [(0, 0, 6, 2), (7, 0, 3, 0)])

    def test_tables(self):
        node = [("t", [], [("s", [], [("c", [], ["aaaa bbb"]), ("c", [], ["c"])]), ("s", [], [("d", [], ["dddddddd"])])])]
        rules = [rule("t", show="table", pleft=1, ptop=2), rule("d", span=2, pleft=2)]
        design = page(node, *rules)
        columns = Columns(2, [(0, 0, 4, 8), (1, 1, 1, 1), (0, 1, 10, 10)])
        self.assertEqual([columns.least_width(), columns.greatest_width()], [10, (23, 2)])
        for width in range(0, 30):
            wide = min(max(Fraction(10), Fraction(width - 1)), Fraction(23, 2))
            line = columns.told_lines(told(wide))[1]
            boxes = {box[0]: box for box in layout_at(design, (width, 1))}
            self.assertEqual(boxes[((0, 1), 0)][2:5], ((1, 1), 4 if Fraction(*line) >= 8 else 6, told(wide)))
            self.assertEqual(boxes[((0, 0, 0), 0)][2:5], ((1, 1), 2, line))
            self.assertEqual(boxes[((0, 0, 1), 0)][2], told(1 + Fraction(*line)))
            # A strip is as high as its highest cell, and so are all its cells.
            self.assertEqual(boxes[((0, 0, 1), 0)][5], boxes[((0, 0, 0), 0)][5])
        # A told width, no less than the least one; auto: the lesser one of its greatest and of the rest, held.
        for more, width in (({"width": 30}, 30), ({"width": 4}, 10), ({"width": PART}, 15), ({"most": 3}, 10), ({"least": 12}, 12),
                            ({"width": 30, "most": 20}, 20), ({}, Fraction(23, 2))):
            told_so = page(node, *rules, rule("t", **more))
            self.assertEqual(box_with(told_so, (30, 1), ((0, 0), 0))[4], told(width))
        # What the width leaves goes to auto margins.
        self.assertEqual(box_with(page(node, *rules, rule("t", mleft="auto")), (30, 1), ((0,), 0))[2], told(Fraction(35, 2)))

    def test_strips_and_cells(self):
        node = [("t", [], [("s", [], [("c", [], ["aa"]), ("c", [], [])])])]
        base = [rule("t", show="table", width=20), rule("c", pleft=("part", 30), height=5)]
        design = page(node, *base)
        plain = places(design, 20, (0, 0), (0, 0, 0), (0, 0, 1))
        # What strips are told, and a table's gap, does nothing.
        more = rule("s", width=3, least=50, mleft=4, pleft=5, ptop=6, mtop=7, height=8, pbottom=9, mbottom=1)
        self.assertEqual(places(page(node, *base, more, rule("t", gap=7)), 20, (0, 0), (0, 0, 0), (0, 0, 1)), plain)
        self.assertEqual(plain[0], (0, 0, 20, 5))
        # Cells fill the distance of their lines, parts are of it, without margins; at least their pads.
        self.assertEqual(plain[1:], [(0, 0, 11, 5), (11, 0, 9, 5)])
        wide = page(node, rule("t", show="table", width=20), rule("c", pleft=("part", 80), pright=("part", 70), mleft=9, width=3))
        self.assertEqual(places(wide, 20, (0, 0, 0), (0, 0, 1)), [(0, 0, 15, 2), (10, 0, 15, 2)])
        self.assertEqual(sticking_out(wide, (20, 1)), [((0, 0, 1), 0)])
        empty = page([("t", [], [("s", [], [])])], rule("t", show="table", height=4))
        self.assertEqual(places(empty, 20, (0,), (0, 0)), [(0, 0, 0, 4), (0, 0, 0, 0)])

    def test_placed_ones(self):
        node = [("x", [], [("b", [], [("p", [], ["aa"]), "cc"])])]
        design = page(node, rule("x", show="block", pleft=2, ptop=3, mtop=1), rule("b", show="line"),
                      rule("p", at=(PART, -4), width=PART, mleft=1, mtop=2, pleft=1))
        # The holder is x: a line one has no box. It takes no room.
        self.assertEqual(places(design, 22, (0,), (0, 0, 0)), [(0, 1, 22, 5), (13, 2, 11, 2)])
        self.assertEqual(sticking_out(design, (22, 1)), [((0, 0, 0), 0)])
        self.assertEqual(places(design, 0, (0, 0, 0)), (3, 2, 1, 2))

    def test_what_is_told_at_one_width_of_one_thing(self):
        dice = Dice(61)
        for _ in range(150):
            design = some_design(dice, 4 + dice.throw(22), 3 + dice.throw(14), ends=(4, 9, 30))
            for _ in range(2):
                width = (dice.throw(100), 1 + dice.throw(3))
                page_there = PlainPage(design, width)
                boxes = layout_at(design, (2 * width[0], 2 * width[1]))
                self.assertEqual(boxes, page_there.layout())
                self.assertEqual([box[0] for box in boxes if box[1] != "text"], all_boxes(page_there.dressed))
                self.assertEqual(sticking_out(design, width), page_there.sticking())
                self.assertEqual(height_at(design, width), boxes[0][3] + boxes[0][5])
                self.assertEqual([box_with(design, width, box[0]) for box in boxes], boxes)

    def test_lines_are_those_of_the_pieces(self):
        dice = Dice(62)
        asked = 0
        for _ in range(60):
            design = some_design(dice, 4 + dice.throw(15), 3 + dice.throw(8))
            width = (dice.throw(40), 1 + dice.throw(2))
            for (path, number), kind, _, _, _, _ in layout_at(design, width):
                if kind != "lines":
                    self.assert_raises(NoLines, path, lines_at, design, width, path)
                elif number == 0:
                    asked += 1
                    lines = lines_at(design, width, list(path))
                    self.assertTrue(all(word and " " not in word for line in lines for word in line))
                    run = PlainPage(design, width).plain.box(path)[2]
                    signs = "".join(design.own_tree().node_at(at) for what, at in run if what == "text")
                    self.assertEqual([word for line in lines for word in line], signs.split())
        self.assertGreater(asked, 60)
        self.assertEqual(lines_at(page(["  "]), (5, 1), []), [])

    def test_a_gone_element_changes_nothing_but_ids(self):
        dice = Dice(63)
        for _ in range(60):
            design = some_design(dice, 4 + dice.throw(15), 3 + dice.throw(10))
            tree, sheet = design.own_tree(), design.own_sheet()
            above = dice.pick(tree.all_elements())
            # The last one among its siblings: numbers of elements stay as they are.
            at = above + (len(tree.node_at(above)[2]),)
            other = Design(tree.with_node(at, ("gone", [], ["aa", ("b", [], [])])), Sheet(sheet.all_rules() + [(3, [(None, ("gone", [], [], None))], {"show": "none"}, None)]))
            width = (dice.throw(60), 1)
            self.assertEqual(layout_at(other, width), layout_at(design, width))

    def test_mirrored_columns(self):
        dice = Dice(64)
        for _ in range(40):
            spans = [[1 + dice.throw(2) for _ in range(3)] for _ in range(2)]
            for row in spans:
                row.append(7 - sum(row))
            texts = [["a" * dice.throw(6) + " b" * dice.throw(3) or "c" for _ in row] for row in spans]
            rows = []
            for turn in (1, -1):
                strips, rules = [], [rule("t", show="table")]
                for number, (row, words) in enumerate(zip(spans, texts)):
                    cells = []
                    for span, word in list(zip(row, words))[::turn]:
                        cells.append(("c", ["k" * span], [word]))
                    strips.append(("s", [], cells))
                for span in range(1, 8):
                    rules.append((0, [(None, (None, ["k" * span], [], None))], {"span": span}, None))
                rows.append(page([("t", [], strips)], *rules))
            for width in (0, 9, 15, 30):
                ones, others = [{box[0]: box for box in layout_at(design, (width, 1))} for design in rows]
                whole = Fraction(*ones[((0,), 0)][4])
                for strip in range(2):
                    for cell in range(4):
                        one, other = ones[((0, strip, cell), 0)], others[((0, strip, 3 - cell), 0)]
                        self.assertEqual(Fraction(*one[2]), whole - Fraction(*other[2]) - Fraction(*other[4]))
                        self.assertEqual(one[3:], other[3:])

    def test_wrong_asked(self):
        design = page(["aa", ("b", [], ["cc"])], rule("b", show="block"))
        for width in NO_WIDTHS:
            for work, more in ((layout_at, ()), (height_at, ()), (sticking_out, ()), (box_with, (None,)), (lines_at, (None,)), (first_fault, (None,))):
                self.assert_keeps(BadWidth, width, work, design, width, *more)
        for box in (None, 5, "ab", (), ((),), ((), 2), ((1,), 1), ((0,), 1), ((9,), 0), ((), True), ((), -1), (None, 0), ((), 0, 0),
                    {0: ()}, deep_list(2000), (deep_list(2000), 0)):
            self.assert_keeps(NoBox, box, box_with, design, (9, 1), box)
        self.assertEqual(box_with(design, (9, 1), [[1], 0])[0], ((1,), 0))
        for path in (None, 5, "ab", (), (0,), (1, 0), (9,), (True,), {}, deep_list(2000)):
            self.assert_keeps(NoLines, path, lines_at, design, (9, 1), path)
        self.assertEqual(lines_at(design, (9, 1), [1]), [["cc"]])

    def test_what_is_told_is_new(self):
        design = page(["aa b"])
        first = layout_at(design, (9, 1))
        first.clear()
        lines_at(design, (9, 1), ())[0].clear()
        self.assertEqual(len(layout_at(design, (9, 1))), 2)
        self.assertEqual(lines_at(design, (9, 1), ()), [["aa", "b"]])

    def test_a_page_at_the_limits(self):
        children = [("b", [], [("c", [], ["aa bb cc"])]) for _ in range(95)]
        deep = ("d", [], ["x"])
        for _ in range(18):
            deep = ("d", [], [deep])
        cells = [("s", [], [("e", [], []) for _ in range(30)])]
        design = page(children + [deep, ("t", [], cells)], rule("b", show="block", pleft=("part", 3)), rule("c", show="block", mtop=3),
                      rule("d", show="block", width=("part", 99)), rule("t", show="table"), rule("e", least=1, height=10 ** 6))
        boxes = layout_at(design, (10 ** 6 + 1, 7))
        self.assertEqual(len(boxes), 1 + 95 * 3 + 20 + 32)
        self.assertEqual(boxes, PlainPage(design, (10 ** 6 + 1, 7)).layout())
        self.assertIsNone(first_fault(design, (10 ** 6 + 1, 7), boxes))


class FaultsTest(unittest.TestCase):
    def test_the_layout_has_none(self):
        dice = Dice(66)
        for _ in range(60):
            design = some_design(dice, 4 + dice.throw(15), 3 + dice.throw(10))
            width = (dice.throw(60), 1 + dice.throw(2))
            boxes = layout_at(design, width)
            self.assertIsNone(first_fault(design, width, boxes))
            loose = tuple([[list(box[0][0]), box[0][1]], box[1], [2 * box[2][0], 2 * box[2][1]], box[3], (3 * box[4][0], 3 * box[4][1]), box[5]] for box in boxes)
            self.assertIsNone(first_fault(design, width, loose))
            at = dice.throw(len(boxes))
            self.check_parts(design, width, boxes, at)
            if at:
                self.assertEqual(first_fault(design, width, boxes[:at]), (at, "box"))
            self.assertEqual(first_fault(design, width, boxes + boxes[:1]), (len(boxes), "box"))

    def check_parts(self, design, width, boxes, at):
        box = boxes[at]
        wrong = [("x", 2), ("y", 3), ("width", 4), ("height", 5)]
        for word, place in wrong:
            for bad in (None, "a", True, box[place] + 1 if place in (3, 5) else (box[place][0] + 1, box[place][1]), deep_list(2000), 0.5):
                thing = boxes[:at] + [box[:place] + (bad,) + box[place + 1:]] + boxes[at + 1:]
                self.assertEqual(first_fault(design, width, thing), (at, word))
                # Words of a box in their order, of boxes the first one.
                worse = thing[:at] + [thing[at][:5] + ((None,) if place < 5 else (bad,))] + [None] * (len(boxes) - at - 1)
                self.assertEqual(first_fault(design, width, worse), (at, word))
        for bad in (None, 5, "abcdef", (None,) + box[1:], (5,) + box[1:], ((None, 0),) + box[1:], ((box[0][0], None),) + box[1:], box[:5], box + (1,), ((box[0][0], box[0][1] + 9),) + box[1:], (box[0], "other") + box[2:],
                    (box[0][0],) + box[1:], (box[0], None) + box[2:], deep_list(2000), (deep_list(2000),) + box[1:]):
            self.assertEqual(first_fault(design, width, boxes[:at] + [bad] + boxes[at + 1:]), (at, "box"))

    def test_no_lists(self):
        design = page([])
        for thing in (None, 5, "ab", {}, {0: 1}, True, design):
            self.assertEqual(first_fault(design, (5, 1), thing), (0, "list"))
        self.assertEqual(first_fault(design, (5, 1), []), (0, "box"))
        # What is no integer, though equal to one.
        self.assertEqual(first_fault(design, (5, 1), [(((), False), "lines", (0, 1), 0, (5, 1), 0)]), (0, "box"))
        self.assertEqual(first_fault(design, (5, 1), [(((), 0), "lines", (0, 1), False, (5, 1), 0)]), (0, "y"))
        self.assertEqual(first_fault(design, (5, 1), [(((), 0), "lines", (False, 1), 0, (5, 1), 0)]), (0, "x"))


if __name__ == "__main__":
    unittest.main()
