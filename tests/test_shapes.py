import unittest
from itertools import product

from dresswise import some_dressed
from naive import Asserts, Dice, deep_list
from pagefall.boxes import all_boxes
from pagefall.dresses import Dressed
from pagefall.refusals import BadKinds
from pagefall.shapes import is_shape, least_tree, shape_of
from pagefall.trees import Tree
from test_boxes import EXAMPLE, FLOAT, ROW, TABLE, dressed

DRESSES = {"l": {}, "b": {"show": "block"}, "r": ROW, "t": TABLE, "f": FLOAT, "u": {"show": "row", "side": "left"}, "v": {"show": "table", "side": "right"}}
LINES, NAMELESS = ("lines", ()), ("nameless", ())


def parts_of(shape):
    """How many boxes a shape has that are not nameless."""
    return (shape[0] != "nameless") + sum(parts_of(part) for part in shape[1])


def things(many):
    """All pairs of a kind and a tuple of such, of at most so many together."""
    found = []
    for inner in rows_of_things(many - 1):
        found.extend((kind, inner) for kind in ("blocks", "lines", "row", "table", "strip", "nameless"))
    return found


def rows_of_things(many):
    rows = [()]
    if many > 0:
        for first in things(many):
            rows.extend((first,) + rest for rest in rows_of_things(many - size(first)))
    return rows


def size(thing):
    return 1 + sum(size(part) for part in thing[1])


def nodes(many):
    """All lists of nodes of at most so many nodes: texts, and elements of a few names."""
    rows = [()]
    if many > 0:
        for first, used in [("x", 1)] + [((name, (), inner), 1 + sum(count(part) for part in inner)) for name in DRESSES for inner in nodes(many - 1)]:
            rows.extend((first,) + rest for rest in nodes(many - used))
    return rows


def count(node):
    return 1 if isinstance(node, str) else 1 + sum(count(part) for part in node[2])


class ShapesTest(unittest.TestCase, Asserts):
    def check(self, shape):
        self.assertIs(is_shape(shape), True, shape)
        least = least_tree(shape)
        self.assertEqual(shape_of(least), shape)
        self.assertEqual(len(least.own_tree().all_elements()), parts_of(shape))

    def test_the_example(self):
        shape = ("blocks", (("blocks", (NAMELESS, LINES)), ("nameless", (LINES,))))
        self.assertEqual(shape_of(EXAMPLE), shape)
        self.check(shape)
        self.assertEqual(len(least_tree(shape).own_tree().all_elements()), 4)

    def test_of_floats_and_placed_ones(self):
        page = dressed(("r", [], ["x", ("f", [], [("f", [], [])]), ("p", [], [("t", [], [])])]), f=FLOAT, p={"at": (0, 0)}, t=TABLE)
        self.assertEqual(shape_of(page), ("lines", (("lines", (LINES,)),)))
        self.assertEqual(shape_of(dressed(("r", [], ["x", ("f", [], []), "y"]), r=ROW, f=FLOAT)), ("row", (NAMELESS, LINES, NAMELESS)))

    def test_all_small_things(self):
        """Just the shapes of some trees are shapes: of all small trees, and of all small things."""
        of_trees = set()
        for inner in nodes(3):
            for name in "lrt":
                of_trees.add(shape_of(dressed((name, (), inner), **DRESSES)))
        shapes = {thing for thing in things(4) if is_shape(thing)}
        for shape in sorted(shapes):
            self.check(shape)
        # A least tree has a node for each box but its own: these trees are large enough.
        self.assertEqual({shape for shape in of_trees if size(shape) <= 4} - shapes, set())
        self.assertEqual({shape for shape in shapes if size(shape) <= 4} - of_trees, set())

    def test_thrown_trees(self):
        dice = Dice(9)
        for _ in range(300):
            page = some_dressed(dice, 2 + dice.throw(24))
            shape = shape_of(page)
            self.check(shape)
            boxes = [box for box in all_boxes(page) if box[1] == 0]
            self.assertLessEqual(parts_of(shape), len(boxes))
            least = least_tree(shape)
            self.assertEqual(least, Dressed(least.own_tree(), {path: {word: least.worth_at(path, word) for word in ("show", "side")} for path in least.own_tree().all_elements()}))

    def test_at_the_limits(self):
        self.check(("row", (LINES,) * 19))
        shape = LINES
        for kind in ("blocks", "lines", "row") * 6:
            shape = (kind, (shape,))
        self.check(("table", (("strip", (("blocks", (shape, NAMELESS)),)),)))

    def test_what_is_none(self):
        for kinds in product(["nameless", "strip"], [(), (LINES,)]):
            self.none_of(kinds)
        for inner in [(NAMELESS,), (NAMELESS, NAMELESS, LINES), (LINES, NAMELESS, NAMELESS), (("strip", ()),), (("cell", ()),), (("block", ()),), ()]:
            self.none_of(("blocks", inner))
        self.none_of(("row", (("nameless", (LINES,)),)))
        self.none_of(("row", (NAMELESS, NAMELESS)))
        self.none_of(("row", (("strip", ()),)))
        self.none_of(("lines", (NAMELESS,)))
        self.none_of(("lines", (("strip", ()),)))
        self.none_of(("table", (LINES,)))
        self.none_of(("table", (("strip", (("row", ()),)),)))
        self.none_of(("table", (("strip", (("table", ()),)),)))
        self.none_of(("blocks", (LINES, ("nameless", (NAMELESS,)))))
        for shape in [("row", ()), ("table", ()), ("table", (("strip", ()),)), ("row", (NAMELESS,)), ("lines", (("row", ()),)), ("blocks", (NAMELESS, ("table", ()), ("nameless", (("row", ()),))))]:
            self.check(shape)

    def test_any_objects(self):
        deep = LINES
        for _ in range(5000):
            deep = ("blocks", (deep,))
        self.assertIs(is_shape(deep), True)
        wrong = ("blocks", (LINES, ("strip", ())))
        for _ in range(5000):
            wrong = ("blocks", (wrong,))
        for thing in [wrong, None, 5, "lines", (), ("lines",), ["lines", ()], ("lines", []), ("lines", [LINES]), ("blocks", (["lines", ()],)), ("lines", (), ()), (("lines",), ()), (None, ()), ("lines", None), ("lines", "row"), ("lines", ("row",)), {}, deep_list(3000), Tree(("a", [], []))]:
            self.none_of(thing)

    def none_of(self, thing):
        self.assertIs(is_shape(thing), False, thing)
        with self.assertRaises(BadKinds) as caught:
            least_tree(thing)
        self.assertIs(caught.exception.thing, thing)


if __name__ == "__main__":
    unittest.main()
