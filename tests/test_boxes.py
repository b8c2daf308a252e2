import unittest

from dresswise import Plain, boxes_in, some_dressed
from naive import Asserts, Dice, deep_list
from pagefall.boxes import all_boxes, box_at, box_tree, shown_as, way_of
from pagefall.dresses import Dressed
from pagefall.errors import NoElement
from pagefall.refusals import NoBox
from pagefall.trees import Tree

EXAMPLE = Dressed(Tree(("r", [], [" ", ("x", [], ["a", ("y", [], ["b"])]), "c", ("z", [], ["d"])])), {(1, 1): {"show": "block"}, (3,): {"side": "left"}})


def dressed(node, **worths):
    """A dressed tree: each element whose name is a keyword has these worths."""
    tree = Tree(node)
    rows = {path: worths[tree.node_at(path)[0]] for path in tree.all_elements() if tree.node_at(path)[0] in worths}
    return Dressed(tree, rows)


def ways(page):
    return [way_of(page, path) for path in page.own_tree().all_elements()]


def shows(page):
    return [shown_as(page, path) for path in page.own_tree().all_elements()]


BLOCK, ROW, TABLE, GONE, PLACED, FLOAT = {"show": "block"}, {"show": "row"}, {"show": "table"}, {"show": "none"}, {"at": (0, 0)}, {"side": "right"}


class BoxesTest(unittest.TestCase, Asserts):
    def test_the_example(self):
        self.assertEqual(box_tree(EXAMPLE), (((), 0), "blocks", [
            (((1,), 0), "blocks", [(((1,), 1), "lines", [("text", (1, 0))]), (((1, 1), 0), "lines", [("text", (1, 1, 0))])]),
            (((), 3), "lines", [("text", (2,)), ("float", (3,))])]))
        self.assertEqual(all_boxes(EXAMPLE), [((), 0), ((1,), 0), ((1,), 1), ((1, 1), 0), ((), 3), ((3,), 0)])
        self.assertEqual(box_at(EXAMPLE, [3]), (((3,), 0), "lines", [("text", (3, 0))]))
        self.assertEqual(shown_as(EXAMPLE, (1,)), "block")
        unbroken = Dressed(EXAMPLE.own_tree(), {(3,): {"side": "left"}})
        self.assertEqual(shown_as(unbroken, (1,)), "line")
        self.assertEqual(box_tree(unbroken), (((), 0), "lines", [("text", (0,)), ("text", (1, 0)), ("text", (1, 1, 0)), ("text", (2,)), ("float", (3,))]))

    def test_gone_ones(self):
        page = dressed(("r", [], [("g", [], [("b", [], []), ("p", [], [])]), ("b", [], [])]), r=GONE, g=GONE, b=BLOCK, p=PLACED)
        self.assertEqual(ways(page), ["root", "gone", "gone", "gone", "flow"])
        self.assertEqual(shows(page), ["block", "none", "none", "none", "block"])
        self.assertEqual(box_tree(page), (((), 0), "blocks", [(((1,), 0), "lines", [])]))
        self.assert_raises(NoBox, ((0, 0), 0), box_at, page, [0, 0])

    def test_strips_and_cells_whatever_they_are_told(self):
        told = {"show": "table", "side": "left", "at": (0, 0)}
        page = dressed(("t", [], ["lost", ("s", [], [("s", [], [("s", [], [("s", [], [])]), "x"]), ("g", [], [])]), ("g", [], [])]), t=TABLE, s=told, g=GONE)
        self.assertEqual(ways(page), ["root", "strip", "cell", "placed", "strip", "gone", "gone"])
        self.assertEqual(shows(page), ["table", "strip", "cell", "table", "strip", "none", "none"])
        self.assertEqual(box_tree(page), (((), 0), "table", [(((1,), 0), "strip", [(((1, 0), 0), "lines", [("text", (1, 0, 1))])])]))
        page = dressed(("t", [], [("s", [], [("r", [], [("l", [], [])])])]), t=TABLE, s=ROW, r=ROW)
        self.assertEqual(ways(page), ["root", "strip", "cell", "flow"])

    def test_which_one_is_due_first(self):
        both = {"side": "left", "at": (0, 0)}
        page = dressed(("r", [], [("p", [], []), ("f", [], []), ("l", [], [])]), r=ROW, p=both, f=FLOAT)
        self.assertEqual(ways(page), ["root", "placed", "item", "item"])
        self.assertEqual(shows(page), ["row", "block", "block", "block"])
        page = dressed(("r", [], [("p", [], []), ("f", [], []), ("l", [], [("f", [], [("t", [], [])])])]), p=both, f=FLOAT, t=TABLE)
        self.assertEqual(ways(page), ["root", "placed", "float", "flow", "float", "flow"])
        self.assertEqual(shows(page), ["block", "block", "block", "line", "block", "table"])
        # The root is none of these.
        self.assertEqual(ways(dressed(("p", [], []), p=both)), ["root"])

    def test_breaking(self):
        node = ("r", [], [("l", [], [("l", [], [("i", [], [])]), "x"])])
        for inner in (BLOCK, ROW, TABLE):
            self.assertEqual(shows(dressed(node, i=inner)), ["block", "block", "block", inner["show"]])
        for inner in ({"show": "block", "side": "left"}, {"show": "block", "at": (0, 0)}, GONE, {}):
            self.assertEqual(shows(dressed(node, i=inner))[:3], ["block", "line", "line"])
        page = dressed(node, i=BLOCK)
        self.assertEqual(box_tree(page)[2][0][2], [(((0, 0), 0), "blocks", [(((0, 0, 0), 0), "lines", [])]), (((0,), 2), "lines", [("text", (0, 1))])])

    def test_nameless_ones(self):
        node = ("r", [], [" ", ("g", [], ["x"]), ("l", [], [" "]), ("l", [], [" x", ("p", [], []), ("f", [], ["y"])]), ("p", [], []), " ", ("b", [], []), "  ", ("p", [], []), ("b", [], []), ("f", [], [])])
        page = dressed(node, g=GONE, p=PLACED, f=FLOAT, b=BLOCK)
        run = [("text", (0,)), ("text", (2, 0)), ("text", (3, 0)), ("float", (3, 2)), ("text", (5,))]
        self.assertEqual(box_tree(page), (((), 0), "blocks", [(((), 4), "lines", run), (((6,), 0), "lines", []), (((9,), 0), "lines", []), (((), 11), "lines", [("float", (10,))])]))
        self.assertEqual(all_boxes(page), [((), 0), ((), 4), ((3, 1), 0), ((3, 2), 0), ((4,), 0), ((6,), 0), ((8,), 0), ((9,), 0), ((), 11), ((10,), 0)])
        # In lines nothing is nameless, blanks stay.
        self.assertEqual(box_tree(dressed(("r", [], [" ", ("l", [], [])]))), (((), 0), "lines", [("text", (0,))]))

    def test_rows(self):
        node = ("r", [], [" ", "a", ("g", [], []), "b", ("i", [], ["x"]), " ", ("p", [], []), ("i", [], []), ("p", [], []), "c"])
        page = dressed(node, r=ROW, g=GONE, p=PLACED)
        self.assertEqual(box_tree(page), (((), 0), "row", [(((), 2), "lines", [("text", (0,)), ("text", (1,)), ("text", (3,))]), (((4,), 0), "lines", [("text", (4, 0))]),
                                                          (((7,), 0), "lines", []), (((), 10), "lines", [("text", (9,))])]))
        self.assertEqual(all_boxes(page), [((), 0), ((), 2), ((4,), 0), ((6,), 0), ((7,), 0), ((8,), 0), ((), 10)])

    def test_thrown_trees(self):
        dice = Dice(41)
        kinds = set()
        for _ in range(250):
            page = some_dressed(dice, 3 + dice.throw(24))
            plain = Plain(page)
            tree = page.own_tree()
            for path in tree.all_elements():
                kinds.add((plain.way(path), plain.shown(path)))
                self.assertEqual((way_of(page, path), shown_as(page, path)), (plain.way(path), plain.shown(path)))
                if plain.has_box(path):
                    self.assertEqual(box_at(page, path), plain.box(path))
                else:
                    self.assert_raises(NoBox, (path, 0), box_at, page, path)
            self.assertEqual(box_tree(page), plain.box(()))
            self.check_together(page, plain)
        self.assertEqual(len(kinds), 19)

    def check_together(self, page, plain):
        ids = [part[0] for box in plain.outermost() for part in boxes_in(box)]
        told = all_boxes(page)
        self.assertEqual(len(set(ids)), len(ids))
        self.assertEqual(sorted(told), sorted(ids))
        # In tree order: a nameless one right ahead of what is in the child by which it is numbered.
        self.assertEqual(told, sorted(told, key=lambda box: (box[0] + (box[1] - 1,), 0) if box[1] else (box[0], 1)))
        plain.homes()

    def test_great_trees(self):
        node = ("l", [], [" a "])
        for depth in range(9):
            node = (["l", "b", "f", "r"][depth % 4], [], ["x", node, ("i", [], ["y"]), " ", ("t", [], [("s", [], ["z", ("c", [], [])])])])
        page = dressed(node, b=BLOCK, f=FLOAT, r=ROW, t=TABLE)
        self.assertGreater(len(page.own_tree()), 80)
        plain = Plain(page)
        self.assertEqual(box_tree(page), plain.box(()))
        self.check_together(page, plain)

    def test_what_is_told_is_new(self):
        told = box_tree(EXAMPLE)
        told[2][0][2].append("more")
        told[2].clear()
        all_boxes(EXAMPLE).clear()
        self.test_the_example()

    def test_errors(self):
        for path in (None, (0,), (9,), (True,), "r", (1, 0), deep_list(2000)):
            for work in (way_of, shown_as, box_at):
                self.assert_keeps(NoElement, path, work, EXAMPLE, path)
        self.assert_raises(NoBox, ((1,), 0), box_at, Dressed(EXAMPLE.own_tree(), {}), [1])


if __name__ == "__main__":
    unittest.main()
