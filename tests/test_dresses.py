import unittest

from naive import Asserts, deep_list
from pagefall.dresses import Dressed
from pagefall.errors import BadWord, NoElement
from pagefall.refusals import BadDress
from pagefall.sheets import Sheet
from pagefall.trees import Tree
from pagefall.worths import all_worths
from sheetwise import FIRSTS
from test_sheets import LET, NEVER, rows_of

TREE = Tree(("r", [], ["x", ("a", [], [("b", ["k"], [])])]))


class DressesTest(unittest.TestCase, Asserts):
    def test_worths(self):
        dressed = Dressed(TREE, {(1,): {"show": "row", "width": ["part", 50], "at": [["part", 3], -1]}, (): {"ink": "r"}})
        self.assertEqual(dressed.own_tree(), TREE)
        self.assertEqual(dressed.worth_at((1,), "width"), ("part", 50))
        self.assertEqual(dressed.worth_at([1], "at"), (("part", 3), -1))
        self.assertEqual(dressed.worth_at((), "ink"), "r")
        # Nothing is handed down; the root is a block.
        self.assertEqual(dressed.worth_at((1,), "ink"), "x")
        self.assertEqual(dressed.worth_at((), "show"), "block")
        for word, first in FIRSTS.items():
            self.assertEqual(dressed.worth_at((1, 0), word), first)

    def test_worths_of_a_sheet(self):
        rule = (0, [(None, (None, [], [], None))], {"size": ("times", 50), "ink": ("use", "--p", "g"), "gap": "as-parent"}, None)
        worths = all_worths(Sheet([rule]), TREE, (5, 1))
        dressed = Dressed(TREE, worths)
        for path, row in worths.items():
            for word, worth in row.items():
                self.assertEqual(dressed.worth_at(path, word), worth)

    def test_equal(self):
        one = Dressed(TREE, {(1,): {"show": "row", "pleft": ["part", 5]}})
        self.assertEqual(one, Dressed(TREE, {(1,): {"pleft": ("part", 5), "show": "row", "gap": 0}, (): {"show": "block"}, (1, 0): {}}))
        self.assertNotEqual(one, Dressed(TREE, {(1,): {"show": "row"}}))
        self.assertNotEqual(one, Dressed(TREE.with_text((0,), "y"), {(1,): {"show": "row", "pleft": ("part", 5)}}))
        self.assertNotEqual(Dressed(TREE, {}), TREE)
        self.assertNotEqual(Dressed(TREE, {}), None)

    def test_what_is_passed_is_copied(self):
        at = [["part", 3], -1]
        rows = {(1,): {"at": at}}
        dressed = Dressed(TREE, rows)
        at[0][1] = 9
        rows[(1,)]["ink"] = "r"
        rows[()] = {"ink": "r"}
        self.assertEqual(dressed, Dressed(TREE, {(1,): {"at": (("part", 3), -1)}}))
        self.assertEqual(rows, {(1,): {"at": [["part", 9], -1], "ink": "r"}, (): {"ink": "r"}})

    def is_worth(self, word, value):
        try:
            return Dressed(TREE, {(1,): {word: value}}).worth_at((1,), word) is not None
        except BadDress as caught:
            self.assertEqual(caught.thing, (1,))
            return False

    def test_values(self):
        for word, right, wrong in rows_of(LET):
            for value in right:
                self.assertIs(self.is_worth(word, value), not (isinstance(value, tuple) and value[0] == "times"), (word, value))
            for value in wrong + NEVER + ["as-parent", "start", ("use", "--p"), ("use", "--p", right[0])]:
                self.assertIs(self.is_worth(word, value), False, (word, value))

    def test_errors_in_order(self):
        for rows in (None, [], (), 5, "row", [((1,), {})], TREE, deep_list(2000)):
            self.assert_keeps(BadDress, rows, Dressed, TREE, rows)
        wrong = (0, 0)
        for key in ((0,), (2,), (1, 0, 0), (True,), "1", 1, None, (None,), ((1,),), (1, -1)):
            self.assert_raises(BadDress, key, Dressed, TREE, {(): {"ink": "r"}, key: {}, wrong: None})
        for told in (None, [], 5, "ink", {"inks": 1}, {"--p": 1}, {None: 1}, {5: 1}, {"ink": "r", "gap": -1}, {"size": ("times", 100)}):
            self.assert_raises(BadDress, (1,), Dressed, TREE, {(): {}, (1,): told, wrong: None})
            self.assert_raises(BadDress, wrong, Dressed, TREE, {(): {}, wrong: None, (1,): told})
        dressed = Dressed(TREE, {})
        for path in (None, (0,), (2,), (True,), "r"):
            self.assert_keeps(NoElement, path, dressed.worth_at, path, None)
        for word in (None, "", "--p", "inks", ["ink"], 5):
            self.assert_keeps(BadWord, word, dressed.worth_at, (1,), word)


if __name__ == "__main__":
    unittest.main()
