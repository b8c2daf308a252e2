import unittest
from fractions import Fraction

from gridwise import cells_of, fraction, plain_sign, shape_holds, some_picture
from naive import Asserts, Dice, deep_list
from pagefall.errors import BadWidth
from pagefall.layouts import layout_at
from pagefall.pictures import Picture, painted_page, shape_at, sign_at
from pagefall.refusals import BadPoint, BadShape
from pagefall.regions import region_of
from plainpage import PlainPage, some_design
from test_forms import NO_FRACTIONS
from test_layouts import NO_WIDTHS, page, rule

GOOD = ("m", (1, 2), -3, (4, 1), 5, "a")
THINGS = [("m", (0, 1), 0, (2, 1), 2, "a"), ("m", (1, 1), 1, (2, 1), 2, None), ("m", (1, 1), 0, (1, 1), 1, "b")]


class PicturesTest(unittest.TestCase, Asserts):
    def test_what_is_kept(self):
        shapes = [["mark", [2, 4], -3, [8, 2], 0, " "], ([0, 1], (-1, 3), 0, (0, 5), 7, None), ((), (0, 1), 0, (0, 1), 0, "-")]
        picture = Picture(shapes)
        told = [("mark", (1, 2), -3, (4, 1), 0, " "), ((0, 1), (-1, 3), 0, (0, 1), 7, None), ((), (0, 1), 0, (0, 1), 0, "-")]
        self.assertEqual(picture.all_shapes(), told)
        shapes[0][2] = 9
        picture.all_shapes().clear()
        self.assertEqual(picture.all_shapes(), told)
        self.assertTrue(picture == Picture(shapes=tuple(told)))
        for other in (Picture(told[::-1]), Picture([]), told, None, 5):
            self.assertFalse(picture == other)
        self.assertEqual(Picture(()).all_shapes(), [])

    def test_wrong_shapes(self):
        for shapes in (None, 5, "ab", {}, {0: GOOD}):
            self.assert_raises(BadShape, 0, Picture, shapes)
        wrong = [None, 5, "abcdef", (), GOOD[:5], GOOD + (1,), deep_list(2000), {0: 1}]
        for at, bads in ((0, [None, 5, "", "Mark", "ninesigns", (-1,), (True,), {}]), (1, NO_FRACTIONS), (2, [None, True, (1, 1), "1"]),
                         (3, NO_WIDTHS), (4, [None, -1, True, (1, 1)]), (5, ["", "ab", "A", 5, ("a",), "\n", deep_list(2000)])):
            wrong += [GOOD[:at] + (bad,) + GOOD[at + 1:] for bad in bads]
        for bad in wrong:
            self.assert_raises(BadShape, 1, Picture, [GOOD, bad, bad])

    def test_points(self):
        picture = Picture(THINGS)
        half = (1, 2)
        rows = [(((0, 1), (0, 1)), "a", 0), ((half, (3, 2)), "a", 0), (((2, 1), (0, 1)), None, None), (((0, 1), (2, 1)), None, None),
                (((1, 1), (1, 1)), "a", 1), (((1, 1), half), "b", 2), (((3, 2), (1, 1)), "a", 1), (((5, 2), (1, 1)), None, 1), (((-1, 9), half), None, None)]
        for (x, y), sign, index in rows:
            self.assertEqual((sign_at(picture, x, y), shape_at(picture, x, y)), (sign, index))
            self.assertEqual(sign_at(picture, (3 * x[0], 3 * x[1]), list(y)), sign)
        for bad in NO_FRACTIONS:
            for x, y in ((bad, (1, 1)), ((1, 1), bad), (bad, None)):
                for work in (sign_at, shape_at):
                    with self.assertRaises(BadPoint) as caught:
                        work(picture, x, y)
                    self.assertIs(caught.exception.x, x)
                    self.assertIs(caught.exception.y, y)

    def test_points_of_thrown_pictures(self):
        dice = Dice(101)
        for _ in range(50):
            picture = some_picture(dice, dice.throw(7))
            shapes = picture.all_shapes()
            corners = [(Fraction(*shape[1]) + part, Fraction(shape[2] + more)) for shape in shapes for part in (0, Fraction(*shape[3])) for more in (0, shape[4])]
            for x, y in corners + [cell[:2] for cell in cells_of([shape[1:5] for shape in shapes])][::3]:
                self.assertEqual(sign_at(picture, fraction(x), fraction(y)), plain_sign(picture, x, y))
                held = [index for index, shape in enumerate(shapes) if shape_holds(shape, x, y)]
                self.assertEqual(shape_at(picture, fraction(x), fraction(y)), held[-1] if held else None)

    def test_the_picture_of_a_page(self):
        design = page(["a", ("b", [], ["bb cc"]), ("l", [], ["d"]), ("e", [], [])], rule("b", show="block", fill="r", ink="i"),
                      rule("e", at=(1, 1), height=2, width=3, layer=-1, fill="z"), root={"fill": "p", "ink": "o"})
        marks = [(shape[0], shape[5]) for shape in painted_page(design, (2, 1)).all_shapes()]
        # The nameless box is left out; e has the layer -1 and so comes first, but never ahead of the root.
        self.assertEqual(marks, [((), "p"), ((3,), "z"), ((0, ), "o"), ((1,), "r"), ((1, 0), "i"), ((1, 0), "i"), ((2, 0), "o")])
        self.assertEqual(painted_page(design, (2, 1)).all_shapes()[1], ((3,), (1, 1), 1, (3, 1), 2, "z"))
        none = page([("b", [], [])], rule("b", show="block"))
        self.assertEqual([shape[5] for shape in painted_page(none, (2, 1)).all_shapes()], [None, None])
        for width in NO_WIDTHS:
            self.assert_keeps(BadWidth, width, painted_page, design, width)

    def test_layers_move_all_within(self):
        node = [("b", [], [("c", [], ["x"])]), ("d", [], []), ("l", [], ["y"])]
        rules = [rule("b", show="block", layer=2), rule("c", show="block", layer=-5), rule("d", show="block"), rule("l", layer=1)]
        marks = [shape[0] for shape in painted_page(page(node, *rules), (9, 1)).all_shapes()]
        # A line one has a layer, too, though it has no box.
        self.assertEqual(marks, [(), (1,), (2, 0), (0,), (0, 0), (0, 0, 0)])

    def test_pictures_of_thrown_pages(self):
        dice = Dice(102)
        for _ in range(60):
            design = some_design(dice, 4 + dice.throw(18), 3 + dice.throw(12))
            width = (dice.throw(60), 1 + dice.throw(2))
            there = PlainPage(design, width)
            rows = []
            for (path, number), kind, x, y, wide, height in layout_at(design, width):
                if kind != "text" and number > 0:
                    continue
                pairs = [(there.worth(path[:depth], "layer") if there.plain.is_element(path[:depth]) else 0, path[depth - 1]) for depth in range(1, len(path) + 1)]
                sign = there.worth(path[:-1], "ink") if kind == "text" else {"none": None}.get(there.worth(path, "fill"), there.worth(path, "fill"))
                rows.append((pairs, number, (path, x, y, wide, height, sign)))
            self.assertEqual(painted_page(design, width).all_shapes(), [row[2] for row in sorted(rows, key=lambda row: row[:2])])

    def test_a_picture_can_be_asked_as_regions(self):
        picture = Picture(THINGS)
        self.assertEqual(region_of([shape[1:5] for shape in picture.all_shapes()])[0][0], 0)


if __name__ == "__main__":
    unittest.main()
