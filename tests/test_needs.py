import unittest

from naive import Asserts, Dice, deep_list
from pagefall.dresses import Dressed
from pagefall.errors import NoElement
from pagefall.needs import need_of, wish_of
from pagefall.refusals import NoBox
from pagefall.trees import Tree
from plainpage import PlainPage, some_design

SIZED = {"size": 1}


def pair(node, rows, path=()):
    """The need and the wish of an element; texts are of the size 1 where rows do not tell another one."""
    tree = Tree(node)
    whole = {at: dict(SIZED, **rows.get(at, {})) for at in tree.all_elements()}
    dressed = Dressed(tree, whole)
    return need_of(dressed, path), wish_of(dressed, path)


def of_items(told, inner):
    """A row of one element for each of the told dicts, each with a text."""
    rows = {(at,): dict({"show": "block"}, **more) for at, more in enumerate(inner)}
    rows[()] = told
    return pair(("a", [], [("b", [], ["aa b"]) for _ in inner]), rows)


class NeedsTest(unittest.TestCase, Asserts):
    def test_lines(self):
        self.assertEqual(pair(("a", [], ["aaa bb c"]), {}), (3, 8))
        self.assertEqual(pair(("a", [], []), {}), (0, 0))
        self.assertEqual(pair(("a", [], ["  "]), {}), (0, 0))
        # A text's signs have the size of the element whose child it is.
        self.assertEqual(pair(("a", [], ["aa ", ("b", [], ["b"])]), {(0,): {}, (1,): {"size": 5}}), (5, 8))
        # Floats, with margins and pads: the greatest need, and all wishes together.
        floats = {(0,): {"side": "left", "mleft": 4, "pright": 1}, (1,): {"side": "right", "width": 9}}
        self.assertEqual(pair(("a", [], [("f", [], ["aa b"]), ("f", [], ["c"]), "dd dd"]), floats), (9, (4 + 4 + 1) + 9 + 5))

    def test_blocks_and_what_is_told(self):
        blocks = ("a", [], [("b", [], ["aa bb"]), "ccc c"])
        self.assertEqual(pair(blocks, {(0,): {"show": "block"}}), (3, 5))
        self.assertEqual(pair(blocks, {(0,): {"show": "block", "pleft": 4, "mright": 5}}), (11, 14))
        # Parts of a room, and auto, count as not told.
        self.assertEqual(pair(blocks, {(0,): {"show": "block", "pleft": ("part", 50), "mleft": "auto", "width": ("part", 9)}}), (3, 5))
        # A told width stands; then it is held; then margins and pads come to it.
        self.assertEqual(pair(blocks, {(): {"width": 7, "pleft": 2, "mright": 1}}), (10, 10))
        self.assertEqual(pair(blocks, {(): {"width": 7, "most": 6, "pleft": 2}}), (8, 8))
        self.assertEqual(pair(blocks, {(): {"width": 7, "most": 6, "least": 9, "pleft": 2}}), (11, 11))
        self.assertEqual(pair(blocks, {(): {"least": 4}, (0,): {"show": "block"}}), (4, 5))
        self.assertEqual(pair(blocks, {(): {"most": 2}, (0,): {"show": "block"}}), (2, 2))

    def test_rows(self):
        self.assertEqual(of_items({"show": "row"}, [{}, {}, {}]), (6, 12))
        self.assertEqual(of_items({"show": "row", "gap": 5}, [{}, {}, {}]), (16, 22))
        self.assertEqual(of_items({"show": "row", "gap": 5, "wrap": "yes"}, [{}, {"mleft": 3}, {}]), (5, 25))
        self.assertEqual(of_items({"show": "row", "gap": 5}, []), (0, 0))
        self.assertEqual(of_items({"show": "row", "gap": 5, "wrap": "yes"}, []), (0, 0))
        # Nameless ones are items, too.
        self.assertEqual(pair(("a", [], ["cc c", ("b", [], ["aa b"])]), {(): {"show": "row", "gap": 2}, (1,): {}}), (6, 10))

    def test_tables_strips_and_cells(self):
        node = ("a", [], [("s", [], [("c", [], ["aaaa bbbbb"]), ("c", [], ["aaaaaa"])]), ("s", [], [("c", [], ["a" * 16 + " bbb"])])])
        rows = {(): {"show": "table", "gap": 9}, (1, 0): {"span": 2}, (0, 0): {"mleft": 3, "pleft": 0}}
        self.assertEqual(pair(node, rows), (16, 19))
        self.assertEqual(pair(node, rows, (0,)), (11, 16))
        self.assertEqual(pair(node, {**rows, (0,): {"width": 8, "mleft": 1, "gap": 7}}, (0,)), (9, 9))
        # Of a cell margins do not count, pads do.
        self.assertEqual(pair(node, {**rows, (0, 0): {"mleft": 3, "pleft": 2, "mright": 8}}, (0, 0)), (7, 12))
        # What strips are told does nothing in the table.
        self.assertEqual(pair(node, {**rows, (0,): {"width": 99, "mleft": 50, "pleft": 70}}), (16, 19))
        # The greatest width is made an integer upward.
        halves = ("a", [], [("s", [], [("c", [], ["aa"]), ("c", [], [])]), ("s", [], [("c", [], ["aaaaa"])])])
        self.assertEqual(pair(halves, {(): {"show": "table"}, (1, 0): {"span": 2}}), (5, 5))
        wide = ("a", [], [("s", [], [("c", [], ["a aaaa"]), ("c", [], [])]), ("s", [], [("c", [], ["aaaaa"])])])
        self.assertEqual(pair(wide, {(): {"show": "table"}, (1, 0): {"span": 2}}), (5, 7))
        self.assertEqual(pair(("a", [], [("s", [], []), " "]), {(): {"show": "table"}}), (0, 0))
        self.assertEqual(pair(("a", [], []), {(): {"show": "table", "pleft": 2}}), (2, 2))

    def test_who_has_none(self):
        tree = Tree(("a", [], [("b", [], []), "text", ("c", [], [("d", [], [])])]))
        dressed = Dressed(tree, {(2,): {"show": "none"}})
        for work in (need_of, wish_of):
            for path in (None, 5, "ab", (1,), (3,), (-1,), (True,), [[0]], {}, deep_list(2000)):
                self.assert_keeps(NoElement, path, work, dressed, path)
            for path in ((0,), [0], (2,), (2, 0), [2, 0]):
                self.assert_raises(NoBox, (tuple(path), 0), work, dressed, path)
            self.assertIsInstance(work(dressed, []), int)

    def test_against_a_plain_reading(self):
        dice = Dice(51)
        asked = 0
        for _ in range(150):
            page = PlainPage(some_design(dice, 4 + dice.throw(22), 3 + dice.throw(14)), (dice.throw(60), 1))
            for path in page.tree.all_elements():
                if page.plain.has_box(path):
                    asked += 1
                    self.assertEqual((need_of(page.dressed, path), wish_of(page.dressed, path)), page.outer_pair(path))
        self.assertGreater(asked, 500)


if __name__ == "__main__":
    unittest.main()
