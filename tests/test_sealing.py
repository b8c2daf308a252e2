import unittest

from naive import Dice
from pagefall.designs import Design
from pagefall.layouts import layout_at
from pagefall.pages import Page
from pagefall.trees import Tree
from plainpage import WORTHS, PlainPage, some_design
from test_layouts import PART, page, rule

TEXTS = ["a", "aa bb", "a" * 12, "a b c d e f g h", "aaa " * 9 + "b", "aa " * 20, "a" * 60 + " b" * 30, "a b " * 40 + "c"]


def put_in(tree, path, texts):
    node = list(tree.node_at(path))
    node[2] = tuple(texts)
    for depth in range(len(path) - 1, -1, -1):
        above = list(tree.node_at(path[:depth]))
        children = list(above[2])
        children[path[depth]] = tuple(node)
        above[2] = children
        node = above
    return Tree(node)


def outside(design, width, path, texts):
    other = Design(put_in(design.own_tree(), path, texts), design.own_sheet())
    return [box for box in layout_at(other, width) if box[0][0][:len(path)] != path]


def is_asked(there, path):
    """Whether an element is firm, and neither is nor stands in a float, a cell, or an item of a row that wraps."""
    way = there.plain.way(path)
    if way == "gone" or way == "flow" and there.worth(path, "show") not in ("block", "row", "table"):
        return False
    for depth in range(len(path) + 1):
        at = path[:depth]
        if there.plain.way(at) in ("float", "cell") or there.plain.way(at) == "item" and there.worth(at[:-1], "wrap") == "yes":
            return False
    return True


class SealingTest(unittest.TestCase):
    def check(self, design, width, path, dice, many=20):
        """That what is told is so; whether the element is sealed."""
        live_page = Page(design.own_tree(), design.own_sheet(), width)
        felt = live_page.felt_outside(path)
        self.assertIs(live_page.is_sealed(path), felt is None)
        empty = outside(design, width, path, [])
        if felt is not None:
            self.assertEqual((len(felt), [isinstance(texts, list) for texts in felt]), (2, [True, True]))
            self.assertNotEqual(outside(design, width, path, felt[0]), outside(design, width, path, felt[1]))
            return False
        for _ in range(many):
            texts = [dice.pick(TEXTS) for _ in range(dice.throw(4))]
            self.assertEqual(outside(design, width, path, texts), empty)
        return True

    def test_blocks(self):
        dice = Dice(141)
        told = page([("b", [], ["aa"]), "cc"], rule("b", show="block", height=5))
        auto = page([("b", [], ["aa"]), "cc"], rule("b", show="block"))
        self.assertTrue(self.check(told, (20, 1), (0,), dice))
        self.assertFalse(self.check(auto, (20, 1), (0,), dice))
        self.assertTrue(self.check(auto, (20, 1), (), dice))
        # Where nothing asks for its height: a told height above it, or it is placed.
        within = page([("b", [], [("c", [], [])])], rule("b", show="block", height=5), rule("c", show="block"))
        self.assertTrue(self.check(within, (20, 1), (0, 0), dice))
        self.assertTrue(self.check(page([("p", [], [])], rule("p", at=(0, 0))), (20, 1), (0,), dice))

    def test_items(self):
        dice = Dice(142)
        node = [("i", [], ["aa"]), ("j", [], ["bb cc"])]
        rules = [rule("page", show="row", height=9), rule("j", shrink=2)]
        self.assertFalse(self.check(page(node, *rules), (30, 1), (0,), dice))
        # A told base, and a row of told height: nothing is felt.
        self.assertTrue(self.check(page(node, *rules, rule("i", base=4)), (30, 1), (0,), dice))
        # Nobody gives way, and nothing comes behind.
        last = page(node[::-1], *rules, rule("j", shrink=0))
        self.assertTrue(self.check(last, (30, 1), (1,), dice))
        # Only what is higher than its neighbour is felt.
        high = page(node, rule("page", show="row"), rule("i", base=4), rule("j", height=9999, mtop=77, base=3))
        self.assertFalse(self.check(high, (7, 1), (0,), dice))
        # It stands last, nobody gives way, and all its words stand in one line: it is never higher than its neighbour.
        low = page(node[::-1], rule("page", show="row"), rule("i", shrink=0), rule("j", height=2, shrink=0))
        self.assertTrue(self.check(low, (7, 1), (1,), dice))

    def test_room_that_grows_with_the_text(self):
        dice = Dice(143)
        # The item is as wide as its text wishes: that is felt, but by itself.
        node = [("j", [], []), ("i", [], [("b", [], [])])]
        rules = [rule("page", show="row"), rule("i", shrink=0), rule("b", show="block", mleft=PART, pright=10), rule("j", height=30, base=3, shrink=0)]
        self.assertFalse(self.check(page(node, *rules), (30, 1), (1, 0), dice))
        self.assertTrue(self.check(page(node, *rules), (30, 1), (1,), dice))
        self.assertFalse(self.check(page(node, *rules, rule("j", height=1)), (30, 1), (1,), dice))
        # Held at a most it grows no more, but becomes as high as one likes.
        self.assertFalse(self.check(page(node, *rules, rule("i", most=20)), (30, 1), (1,), dice))

    def test_rows_tables_and_strips(self):
        dice = Dice(144)
        node = [("t", [], [("s", [], [("c", [], ["aa"])])]), ("r", [], ["a", ("b", [], [])])]
        design = page(node, rule("t", show="table"), rule("r", show="row"), rule("b", height=3))
        # Texts in tables and strips are nowhere.
        self.assertTrue(self.check(design, (20, 1), (0,), dice))
        self.assertTrue(self.check(design, (20, 1), (0, 0), dice))
        self.assertFalse(self.check(design, (20, 1), (1,), dice))
        self.assertTrue(self.check(page(node, rule("r", show="row", height=9)), (20, 1), (1,), dice))

    def test_thrown_pages(self):
        dice = Dice(145)
        counts = [0, 0]
        words = tuple(word for word in WORTHS if word != "side")
        for _ in range(80):
            design = some_design(dice, 4 + dice.throw(14), 3 + dice.throw(14), words=words)
            width = (dice.throw(90), 1)
            there = PlainPage(design, width)
            for path in there.tree.all_elements():
                if is_asked(there, path):
                    counts[self.check(design, width, path, dice, 8)] += 1
        self.assertGreater(min(counts), 20)


if __name__ == "__main__":
    unittest.main()
