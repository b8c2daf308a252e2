import unittest
from fractions import Fraction

from naive import Asserts, Dice, deep_list
from dresswise import Plain
from pagefall.across import in_rooms
from pagefall.designs import Design
from pagefall.dresses import Dressed
from pagefall.errors import BadWidth
from pagefall.layouts import layout_at
from pagefall.lines import all_rooms
from pagefall.refusals import BadAbout
from pagefall.rows import Row
from pagefall.sheets import Sheet
from pagefall.wide import page_pieces, page_turns, pieces_about
from plainpage import WORTHS, PlainPage, some_design, told
from test_layouts import NO_WIDTHS, PART, page, rule
from widthwise import holds, turning_widths

ALL = ((0, 1), True, None, False)
NAMES = ["width", "base", "least", "most", "mleft", "mright", "pleft", "pright"]
EXAMPLE = page(["aa bb"])
EXAMPLE_FLOAT = page([("f", [], []), "aa bb"], rule("f", side="left", width=PART, height=2))


def form(a, b=0):
    return (told(a), told(b))


def boxes_at(piece, width):
    """The boxes of a piece at a width, by their forms."""
    width = Fraction(*width)
    boxes = []
    for box, kind, x, y, wide, height in piece[1]:
        worths = [told(Fraction(*part[0]) + Fraction(*part[1]) * width) for part in (x, wide)]
        boxes.append((box, kind, worths[0], y, worths[1], height))
    return boxes


class WideTest(unittest.TestCase, Asserts):
    def test_the_example(self):
        root, first, second = ((), 0), ((0,), 0), ((0,), 1)
        self.assertEqual(page_pieces(EXAMPLE), [
            (((0, 1), True, (5, 1), False), [(root, "lines", form(0), 0, form(0, 1), 4), (first, "text", form(0), 0, form(2), 2),
                                              (second, "text", form(0), 2, form(2), 2)]),
            (((5, 1), True, None, False), [(root, "lines", form(0), 0, form(0, 1), 2), (first, "text", form(0), 0, form(5), 2)])])
        self.assertEqual(page_turns(EXAMPLE), [[root, first, second]])
        # With a float of half the width ahead of the text: one line of its height from 10 on.
        pieces = page_pieces(EXAMPLE_FLOAT)
        self.assertEqual([stretch for stretch, _ in pieces], [((0, 1), True, (4, 1), False), ((4, 1), True, (10, 1), False), ((10, 1), True, None, False)])
        half = form(0, Fraction(1, 2))
        self.assertEqual(pieces[2][1], [(root, "lines", form(0), 0, form(0, 1), 2), (first, "lines", form(0), 0, half, 2),
                                        (((1,), 0), "text", half, 0, form(5), 2)])

    def test_pieces_are_the_layout_at_all_widths(self):
        dice = Dice(71)
        many = 0
        for number in range(60):
            design = some_design(dice, 4 + dice.throw(24), 3 + dice.throw(14), ends=(5, 10, 20))
            pieces = page_pieces(design)
            stretches = [stretch for stretch, _ in pieces]
            self.assertEqual((stretches[0][:2], stretches[-1][2:]), (((0, 1), True), (None, False)))
            for width in turning_widths(stretches):
                at = [piece for piece in pieces if holds(piece[0], width)]
                self.assertEqual(len(at), 1)
                boxes = layout_at(design, width)
                self.assertEqual(boxes_at(at[0], width), boxes)
                if number < 15:
                    self.assertEqual(PlainPage(design, width).layout(), boxes)
            many += len(pieces)
            self.check_neighbours(pieces)
            self.check_turns(design, pieces)
        self.assertGreater(many, 200)

    def check_neighbours(self, pieces):
        """Two neighbours could not be one, and the earlier one not be longer."""
        for one, other in zip(pieces, pieces[1:]):
            (low, is_in, high, has_high), (begin, is_begin, _, _) = one[0], other[0]
            self.assertEqual((high, has_high), (begin, not is_begin))
            self.assertTrue(Fraction(*low) < Fraction(*high) or is_in and has_high)
            self.assertNotEqual(one[1], other[1])
            if not has_high:
                self.assertNotEqual(boxes_at(one, high), boxes_at(other, high))
            if low == high:
                self.assertTrue(all(box[2][1] == box[4][1] == (0, 1) for box in one[1]))
                self.assertNotEqual(boxes_at(one, high), boxes_at(other, high))

    def check_turns(self, design, pieces):
        turns = page_turns(design)
        self.assertEqual(len(turns), len(pieces) - 1)
        for turned, one, other in zip(turns, pieces, pieces[1:]):
            single = [piece[0][0] for piece in (one, other) if piece[0][0] == piece[0][2]]
            rows = [boxes_at(piece, single[0]) if single else piece[1] for piece in (one, other)]
            ones, others = [{box[0]: box for box in row} for row in rows]
            unlike = {name for name in list(ones) + list(others) if ones.get(name) != others.get(name)}
            self.assertEqual(set(turned), unlike)
            self.assertEqual(len(turned), len(unlike))
            self.assertGreater(len(turned), 0)
            for row in rows:
                self.assertEqual([box[0] for box in row if box[0] in unlike], [name for name in turned if name in {box[0] for box in row}])

    def test_turns_in_tree_order(self):
        rules = [rule("b", show="block"), (0, [(None, ("c", [], [], None))], {"show": "block"}, (0, 5)),
                 (0, [(None, ("d", [], [], None))], {"show": "block"}, (5, None))]
        design = page(["a", ("b", [], []), "e", ("c", [], ["x"]), ("d", [], ["y"])], *rules)
        # Up to 5 c is a block and d within a nameless box behind it, from there on the other way about.
        self.assertEqual(page_turns(design), [[((), 0), ((3,), 0), ((3, 0), 0), ((), 5), ((4,), 0), ((4, 0), 0)]])

    def test_a_piece_of_one_width(self):
        # At 5 alone both hold: from 5 on, and up to 5.
        ends = [(0, [(None, ("b", [], [], None))], {"height": 3}, (5, 6)), (1, [(None, ("b", [], [], None))], {"height": 7}, (6, None))]
        design = page([("b", [], [])], rule("b", show="block"), *ends)
        self.assertEqual([stretch for stretch, _ in page_pieces(design)],
                         [((0, 1), True, (5, 1), False), ((5, 1), True, (6, 1), False), ((6, 1), True, None, False)])
        # Two floats stand side by side at the width 0 alone.
        found = page([("f", [], []), ("g", [], [])], rule("f", side="left", width=PART, height=2),
                     rule("g", side="left", width=("part", 60), height=3))
        pieces = page_pieces(found)
        self.assertEqual([stretch for stretch, _ in pieces], [((0, 1), True, (0, 1), True), ((0, 1), False, None, False)])
        self.assertEqual(pieces[0][1], [(((), 0), "lines", form(0), 0, form(0), 3), (((0,), 0), "lines", form(0), 0, form(0), 2),
                                        (((1,), 0), "lines", form(0), 0, form(0), 3)])
        self.assertEqual(page_turns(found), [[((), 0), ((1,), 0)]])

    def test_a_page_of_one_block(self):
        dice = Dice(72)
        for _ in range(80):
            told_words = {word: dice.pick(WORTHS[word]) for word in ("width", "least", "most", "mleft", "mright", "pleft", "pright")}
            told_across = tuple(told_words[word] for word in ("width", "least", "most", "mleft", "mright", "pleft", "pright"))
            pieces = page_pieces(page([("b", [], [])], rule("b", show="block", height=1, **told_words)))
            for (stretch, forms), other in zip(in_rooms(told_across), in_rooms(told_across)[1:]):
                self.assertEqual(stretch[2], other[0][0])
            for width in turning_widths([stretch for stretch, _ in pieces], [stretch for stretch, _ in in_rooms(told_across)]):
                forms = [forms for stretch, forms in in_rooms(told_across) if holds(stretch, width)][0]
                left, pleft, wide, pright, _ = [Fraction(*part[0]) + Fraction(*part[1]) * Fraction(*width) for part in forms]
                box = [boxes_at(piece, width)[1] for piece in pieces if holds(piece[0], width)][0]
                self.assertEqual(box, (((0,), 0), "lines", told(left), 0, told(pleft + wide + pright), 1))

    def test_a_page_of_one_text(self):
        dice = Dice(73)
        for _ in range(60):
            text = "".join(dice.pick("ab  ") for _ in range(1 + dice.throw(20)))
            size = 1 + dice.throw(3)
            pieces = page_pieces(page([text], root={"size": size}))
            rooms = all_rooms([(size, text)])
            self.assertEqual([stretch[0] for stretch, _ in pieces], [(room, 1) for room, _, _ in rooms])
            self.assertTrue(all(stretch[1] for stretch, _ in pieces))
            self.assertEqual([boxes[0][5] for _, boxes in pieces], [height for _, _, height in rooms])
            self.assertEqual([len(boxes) - 1 for _, boxes in pieces], [len(begins) for _, begins, _ in rooms])

    def test_a_page_of_one_row(self):
        dice = Dice(74)
        for _ in range(60):
            items, rules = [], []
            for number in range(1 + dice.throw(4)):
                least = dice.throw(9)
                item = (dice.throw(20), dice.throw(3), dice.throw(3), least, dice.pick([None, least + dice.throw(12)]))
                items.append(((item[0], 1),) + item[1:])
                rules.append((0, [(None, (None, [], [], (0, number + 1))), ("child", ("page", [], [], None))],
                              {"base": item[0], "grow": item[1], "shrink": item[2], "least": least, "most": "none" if item[4] is None else item[4]}, None))
            gap = dice.throw(3)
            pieces = page_pieces(page([("b", [], []) for _ in items], rule("page", show="row", gap=gap), *rules))
            plain = Row(items, gap).all_pieces()
            self.assertEqual([stretch[0] for stretch, _ in pieces], [low for low, _, _ in plain])
            for (_, boxes), (_, _, forms) in zip(pieces, plain):
                self.assertEqual(tuple(box[4] for box in boxes[1:]), forms)

    def test_pieces_about(self):
        dice = Dice(75)
        asked = refused = 0
        for _ in range(45):
            design = some_design(dice, 4 + dice.throw(20), 3 + dice.throw(16), ends=(5, 10, 20))
            width = (dice.throw(90), 1 + dice.throw(2))
            there = PlainPage(design, width)
            for path in there.tree.all_elements():
                name = dice.pick(NAMES)
                if not is_askable(there, path, name):
                    refused += 1
                    self.assert_raises(BadAbout, (path, name), pieces_about, design, width, path, name)
                    continue
                asked += 1
                pieces = pieces_about(design, width, list(path), name)
                self.check_neighbours(pieces)
                self.check_lengths(there, path, name, pieces)
        self.assertGreater(min(asked, refused), 50)

    def check_lengths(self, there, path, name, pieces):
        """That pieces tell the layouts with such a length in the place of a worth."""
        rows = {at: {word: there.worth(at, word) for word in WORTHS} for at in there.tree.all_elements()}
        lengths = {0, 1, 2, 1000}
        for width in turning_widths([stretch for stretch, _ in pieces]):
            lengths |= {width[0] // width[1], width[0] // width[1] + 1}
        for length in sorted(lengths):
            rows[path][name] = length
            other = PlainPage(Design(there.tree, Sheet([])), told(there.width))
            other.dressed = Dressed(there.tree, rows)
            other.plain = Plain(other.dressed)
            at = [piece for piece in pieces if holds(piece[0], (length, 1))]
            self.assertEqual(len(at), 1)
            self.assertEqual(boxes_at(at[0], (length, 1)), other.layout())

    def test_about_one_block(self):
        design = page([("b", [], [])], rule("b", show="block", mleft=3, mright="auto", width=5))
        boxes = [(stretch, rows[1][2:5]) for stretch, rows in pieces_about(design, (20, 1), (0,), "mleft")]
        self.assertEqual(boxes, [(ALL, (form(0, 1), 0, form(5)))])
        self.assertEqual([rows[1][4] for _, rows in pieces_about(design, (20, 1), (0,), "width")], [form(0, 1)])
        self.assertEqual([(stretch[2], rows[1][4]) for stretch, rows in pieces_about(design, (20, 1), (0,), "least")], [((5, 1), form(5)), (None, form(0, 1))])

    def test_worths_that_others_took_stay(self):
        design = page([("b", [], [("c", [], [])])], rule("b", show="block", pleft=4), rule("c", show="block", pleft="as-parent"))
        _, rows = pieces_about(design, (20, 1), (0,), "pleft")[0]
        self.assertEqual([box[2] for box in rows], [form(0), form(0), form(0, 1)])
        self.assertEqual(rows[2][4], form(20, -1))

    def test_wrong_asked(self):
        design = page([("b", [], ["aa"]), ("t", [], [("s", [], [("c", [], [("d", [], [])])])]), ("f", [], [("d", [], [])])],
                      rule("b", show="block", width=5, least=2, mleft="auto", pleft=PART), rule("t", show="table"),
                      rule("d", show="block", width=3), rule("f", side="left"))
        for width in NO_WIDTHS:
            self.assert_keeps(BadWidth, width, pieces_about, design, width, (9,), "other")
        for path in (None, 5, "ab", (0, 0), (9,), (True,), {}, deep_list(2000)):
            caught = self.assert_raises(BadAbout, (path, "width"), pieces_about, design, (9, 1), path, "width")
            self.assertIs(caught.thing[0], path)
        for name in (None, 5, "height", "gap", "grow", "size", "--width", "", ("width",), deep_list(2000)):
            caught = self.assert_raises(BadAbout, ((0,), name), pieces_about, design, (9, 1), (0,), name)
            self.assertIs(caught.thing[1], name)
        # Worths that are no integers; cells, and what stands in them, or in a float of auto width.
        for path, name in (((0,), "mleft"), ((0,), "pleft"), ((0,), "most"), ((0,), "base"), ((1, 0, 0), "least"), ((1, 0, 0, 0), "width"),
                           ((2, 0), "width")):
            self.assert_raises(BadAbout, (path, name), pieces_about, design, (9, 1), path, name)
        for path, name in (((0,), "width"), ((1,), "least"), ((1, 0), "least"), ((2,), "least"), ((), "pleft")):
            self.assertIsInstance(pieces_about(design, (9, 1), path, name), list)

    def test_where_needs_hang_on_a_length(self):
        node = [("i", [], [("d", [], [("e", [], [])])])]
        rows = [({"base": "auto", "width": "auto"}, False), ({"base": 5, "width": "auto"}, True), ({"base": "auto", "width": 5}, True), ({"base": PART, "width": PART}, True)]
        for told_so, is_right in rows:
            design = page(node, rule("page", show="row"), rule("i", **told_so), rule("d", show="block"), rule("e", show="block", width=3))
            self.check_asked(design, (0, 0, 0), "width", is_right)
            self.check_asked(design, (0,), "least", True)
        for told_so, is_right in (({"width": "auto"}, False), ({"width": 5}, True), ({"width": PART}, True)):
            design = page(node, rule("i", side="left", **told_so), rule("d", show="block"), rule("e", show="block", width=3))
            self.check_asked(design, (0, 0, 0), "width", is_right)
            self.check_asked(design, (0,), "least", True)

    def check_asked(self, design, path, name, is_right):
        if is_right:
            self.assertIsInstance(pieces_about(design, (9, 1), path, name), list)
        else:
            self.assert_raises(BadAbout, (path, name), pieces_about, design, (9, 1), path, name)

    def test_what_is_told_is_new(self):
        page_pieces(EXAMPLE)[0][1].clear()
        self.assertEqual(len(page_pieces(EXAMPLE)[0][1]), 3)
        page_turns(EXAMPLE)[0].clear()
        self.assertEqual(len(page_turns(EXAMPLE)[0]), 3)

    def test_a_page_at_the_limits(self):
        words = " ".join("a" * (1 + at % 7) for at in range(20))
        children = []
        for at in range(17):
            children.append(("b", ["k" * (1 + at % 8)], ["a b"] if at % 2 else [("f", [], []), ("c", [], ["aa"])]))
        rules = [rule("b", show="block", pleft=("part", 7), width=("part", 81)), rule("f", side="left", width=PART, height=3),
                 rule("c", show="block", least=4)]
        design = page([words] + children + [("r", [], [("i", [], []) for _ in range(14)])], *rules, rule("r", show="row"),
                      rule("i", base=("part", 9), grow=2, least=3, most=50))
        pieces = page_pieces(design)
        self.assertGreater(len(pieces), 30)
        for width in turning_widths([stretch for stretch, _ in pieces])[::7]:
            self.assertEqual(boxes_at([piece for piece in pieces if holds(piece[0], width)][0], width), layout_at(design, width))


    def test_two_hundred_pieces(self):
        dice = Dice(76)
        classes = ["abcdefghijkl"[at] for at in range(12)]
        children, rules = [], [rule("f", side="left")]
        for at, klass in enumerate(classes):
            children.append(("f", [klass], []))
            children.extend("a" * (1 + dice.throw(9)) + " " for _ in range(3))
            told_so = {"width": ("part", 5 + 7 * at % 60) if at % 2 else 3 + at, "side": "left" if at % 3 else "right", "height": 1 + at % 7, "least": at % 4}
            rules.append((0, [(None, (None, [klass], [], None))], told_so, None))
        design = page(children, *rules)
        pieces = page_pieces(design)
        self.assertTrue(200 < len(pieces) <= 300)
        self.check_neighbours(pieces)
        for width in turning_widths([stretch for stretch, _ in pieces])[::9]:
            self.assertEqual(boxes_at([piece for piece in pieces if holds(piece[0], width)][0], width), PlainPage(design, width).layout())


def is_askable(there, path, name):
    if not there.plain.has_box(path) or not isinstance(there.worth(path, name), int) or there.plain.way(path) == "cell":
        return False
    for depth in range(len(path)):
        way, at = there.plain.way(path[:depth]), path[:depth]
        if way == "cell" or way == "float" and there.worth(at, "width") == "auto":
            return False
        if way == "item" and (there.worth(at, "base"), there.worth(at, "width")) == ("auto", "auto"):
            return False
    return True


if __name__ == "__main__":
    unittest.main()
