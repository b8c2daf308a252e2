import unittest

from naive import Asserts, Dice, deep_list, some_node
from pagefall.errors import BadWidth, BadWord, NoElement
from pagefall.properties import PROPERTIES
from pagefall.sheets import Sheet
from pagefall.trees import Tree
from pagefall.whys import why_worth, worth_by
from pagefall.worths import own_worth, worth_of
from sheetwise import OWN_NAMES, some_rule

TREE = Tree(("r", [], [("a", [], [("b", [], [])])]))
PATHS = [(), (0,), (0, 0)]
HOWS = ["handed", "first", "start", "parent", "times", "use", "fallback", "empty", "round", "plain"]
WIDTH = (5, 1)


def sheet_of(*rows):
    """A sheet of one rule for each pair of the name of an element and what it declares."""
    return Sheet([(0, [(None, (name, [], [], None))], words, None) for name, words in rows])


class WhysTest(unittest.TestCase, Asserts):
    def check(self, sheet, depth, word, expected, worth):
        """Expected are tuples of a depth, a word, a how, and a number."""
        reasons = why_worth(sheet, TREE, PATHS[depth], word, WIDTH)
        self.assertEqual(reasons, [(PATHS[at], what, how, number) for at, what, how, number in expected])
        told = worth_of(sheet, TREE, PATHS[depth], word, WIDTH) if word in PROPERTIES else own_worth(sheet, TREE, PATHS[depth], word, WIDTH)
        self.assertEqual((worth_by(sheet, reasons), told), (worth, worth))
        self.assertEqual(worth_by(sheet, tuple([list(path), *rest] for path, *rest in reasons)), worth)

    def test_plain_and_nothing(self):
        sheet = sheet_of(("a", {"grow": 3, "ink": "r"}))
        self.check(sheet, 1, "grow", [(1, "grow", "plain", 0)], 3)
        self.check(sheet, 2, "grow", [(2, "grow", "first", None)], 0)
        self.check(sheet, 2, "ink", [(2, "ink", "handed", None), (1, "ink", "plain", 0)], "r")
        self.check(sheet, 0, "ink", [(0, "ink", "first", None)], "x")
        self.check(sheet, 0, "show", [(0, "show", "first", None)], "block")
        self.check(sheet, 1, "show", [(1, "show", "first", None)], "line")

    def test_start_and_parent(self):
        sheet = sheet_of(("r", {"ink": "as-parent", "grow": "as-parent", "show": "start"}), ("a", {"ink": "start", "grow": "as-parent", "show": "start"}), ("b", {"ink": "as-parent"}))
        self.check(sheet, 0, "ink", [(0, "ink", "first", 0)], "x")
        self.check(sheet, 0, "show", [(0, "show", "start", 0)], "block")
        self.check(sheet, 1, "show", [(1, "show", "start", 1)], "line")
        self.check(sheet, 1, "grow", [(1, "grow", "parent", 1), (0, "grow", "first", 0)], 0)
        self.check(sheet, 2, "ink", [(2, "ink", "parent", 2), (1, "ink", "start", 1)], "x")

    def test_times(self):
        sheet = sheet_of(("r", {"size": ("times", 250)}), ("a", {"size": ("times", 50)}), ("b", {"size": ("times", 1)}))
        self.check(sheet, 0, "size", [(0, "size", "times", 0)], 25)
        self.check(sheet, 1, "size", [(1, "size", "times", 1), (0, "size", "times", 0)], 12)
        self.check(sheet, 2, "size", [(2, "size", "times", 2), (1, "size", "times", 1), (0, "size", "times", 0)], 1)
        # Parts are taken level by level: the whole part of each is kept.
        self.check(sheet_of(("a", {"size": ("times", 150)}), ("b", {"size": ("times", 33)})), 2, "size",
                   [(2, "size", "times", 1), (1, "size", "times", 0), (0, "size", "first", None)], 4)

    def test_times_by_a_use_or_a_fallback(self):
        sheet = sheet_of(("r", {"--p": ("times", 300)}), ("a", {"size": ("use", "--p")}), ("b", {"size": ("use", "--q", ("times", 200))}))
        self.check(sheet, 1, "size", [(1, "size", "use", 1), (1, "--p", "handed", None), (0, "--p", "plain", 0), (0, "size", "first", None)], 30)
        self.check(sheet, 2, "size", [(2, "size", "fallback", 2), (1, "size", "use", 1), (1, "--p", "handed", None), (0, "--p", "plain", 0), (0, "size", "first", None)], 60)
        root = sheet_of(("r", {"--p": ("times", 300), "size": ("use", "--p")}))
        self.check(root, 0, "size", [(0, "size", "use", 0), (0, "--p", "plain", 0)], 30)
        self.check(sheet_of(("r", {"size": ("use", "--p", ("times", 300))})), 0, "size", [(0, "size", "fallback", 0)], 30)
        self.check(root, 0, "--p", [(0, "--p", "plain", 0)], ("times", 300))

    def test_uses(self):
        sheet = sheet_of(("r", {"--p": 7}), ("a", {"--q": ("use", "--p"), "grow": ("use", "--q", 1)}), ("b", {"--p": 9, "grow": ("use", "--q")}))
        self.check(sheet, 1, "grow", [(1, "grow", "use", 1), (1, "--q", "use", 1), (1, "--p", "handed", None), (0, "--p", "plain", 0)], 7)
        self.check(sheet, 2, "grow", [(2, "grow", "use", 2), (2, "--q", "handed", None), (1, "--q", "use", 1), (1, "--p", "handed", None), (0, "--p", "plain", 0)], 7)
        self.check(sheet, 0, "--q", [(0, "--q", "first", None)], None)
        self.check(sheet, 1, "--s", [(1, "--s", "handed", None), (0, "--s", "first", None)], None)

    def test_fallback_and_empty(self):
        sheet = sheet_of(("r", {"--p": "left", "--q": ("use", "--s")}), ("a", {"grow": ("use", "--p"), "ink": ("use", "--p"), "fill": ("use", "--p", "w")}),
                         ("b", {"--q": ("use", "--s", 4), "grow": ("use", "--q"), "gap": ("use", "--s", 2), "align": ("use", "--p")}))
        self.check(sheet, 0, "--q", [(0, "--q", "empty", 0)], None)
        self.check(sheet, 1, "--q", [(1, "--q", "handed", None), (0, "--q", "empty", 0)], None)
        self.check(sheet, 1, "grow", [(1, "grow", "empty", 1), (1, "grow", "first", None)], 0)
        self.check(sheet, 1, "ink", [(1, "ink", "empty", 1), (1, "ink", "handed", None), (0, "ink", "first", None)], "x")
        self.check(sheet, 1, "fill", [(1, "fill", "fallback", 1)], "w")
        self.check(sheet, 2, "grow", [(2, "grow", "use", 2), (2, "--q", "fallback", 2)], 4)
        self.check(sheet, 2, "gap", [(2, "gap", "fallback", 2)], 2)
        self.check(sheet, 2, "align", [(2, "align", "use", 2), (2, "--p", "handed", None), (1, "--p", "handed", None), (0, "--p", "plain", 0)], "left")
        self.check(sheet_of(("r", {"ink": ("use", "--p")})), 0, "ink", [(0, "ink", "empty", 0), (0, "ink", "first", None)], "x")

    def test_rings(self):
        sheet = sheet_of(("r", {"--p": ("use", "--q", 3), "--q": ("use", "--p"), "--s": ("use", "--s", 5), "grow": ("use", "--p"), "gap": ("use", "--q", 6)}),
                         ("a", {"--q": ("use", "--p")}), ("b", {"--t": ("use", "--s")}))
        self.check(sheet, 0, "--p", [(0, "--p", "round", 0), (0, "--p", "fallback", 0)], 3)
        self.check(sheet, 0, "--q", [(0, "--q", "round", 0), (0, "--q", "empty", 0)], None)
        self.check(sheet, 0, "--s", [(0, "--s", "round", 0), (0, "--s", "fallback", 0)], 5)
        self.check(sheet, 0, "grow", [(0, "grow", "use", 0), (0, "--p", "round", 0), (0, "--p", "fallback", 0)], 3)
        self.check(sheet, 0, "gap", [(0, "gap", "fallback", 0)], 6)
        self.check(sheet, 1, "--q", [(1, "--q", "use", 1), (1, "--p", "handed", None), (0, "--p", "round", 0), (0, "--p", "fallback", 0)], 3)
        self.check(sheet, 2, "--t", [(2, "--t", "use", 2), (2, "--s", "handed", None), (1, "--s", "handed", None), (0, "--s", "round", 0), (0, "--s", "fallback", 0)], 5)

    def test_thrown_sheets(self):
        dice = Dice(7)
        seen = set()
        for _ in range(60):
            sheet = Sheet([some_rule(dice) for _ in range(dice.throw(8))])
            tree = Tree(some_node(dice, ["a", "b"], ["k"], 8))
            width = (dice.throw(440), 2)
            for path in tree.all_elements():
                for word in list(PROPERTIES) + OWN_NAMES:
                    reasons = why_worth(sheet, tree, path, word, width)
                    worth = worth_of(sheet, tree, path, word, width) if word in PROPERTIES else own_worth(sheet, tree, path, word, width)
                    self.assertEqual(worth_by(sheet, reasons), worth, reasons)
                    seen.update(reason[2] for reason in reasons)
                    if len(reasons) > 1:
                        self.check_spoiled(sheet, reasons, dice)
        self.assertEqual(seen, set(HOWS))

    def check_spoiled(self, sheet, reasons, dice):
        at = dice.throw(len(reasons))
        path, word, how, number = reasons[at]
        for other in HOWS:
            if other != how:
                self.none_of(sheet, reasons[:at] + [(path, word, other, number)] + reasons[at + 1:])
        self.none_of(sheet, reasons[:-1])
        self.none_of(sheet, reasons[:at + 1] + reasons[at:])
        self.none_of(sheet, reasons + [reasons[-1]])
        self.none_of(sheet, reasons[::-1])
        self.none_of(sheet, reasons[:at] + [(path, word, how, len(sheet))] + reasons[at + 1:])
        if number is not None and how != "first":
            self.none_of(sheet, reasons[:at] + [(path, word, how, None)] + reasons[at + 1:])
        if at > 0:
            self.none_of(sheet, reasons[:at] + [(path + (0,), word, how, number)] + reasons[at + 1:])
            self.none_of(sheet, reasons[:at] + [(path, "--zz", how, number)] + reasons[at + 1:])
        if 0 < at < len(reasons) - 1 and how != "round" and how != "empty":
            self.none_of(sheet, reasons[:at] + reasons[at + 1:])

    def none_of(self, sheet, reasons):
        self.assertIsNone(worth_by(sheet, reasons), reasons)

    def test_no_list_of_reasons(self):
        sheet = sheet_of(("r", {"ink": "r"}))
        right = ((), "ink", "plain", 0)
        self.assertEqual(worth_by(sheet, [right]), "r")
        for thing in [None, 1, "ink", {}, [], (), right, [right, right], [None], [right[:3]], [right + (0,)], [[()]], deep_list(3000), sheet, [sheet], {0: right}]:
            self.none_of(sheet, thing)
        wrong = [[None, (True,), (-1,), "0", 0, {}, sheet, [[]]], [None, "--", "inks", 1, ["ink"], sheet, {}], [None, "plainly", 1, ["plain"], sheet], [None, True, False, -1, 1, "0", [0], sheet]]
        for place, things in enumerate(wrong):
            for thing in things:
                self.none_of(sheet, [right[:place] + (thing,) + right[place + 1:]])

    def test_lists_that_hang_together_wrongly(self):
        sheet = sheet_of(("r", {"--p": 7, "ink": ("use", "--p"), "--s": ("use", "--s", 3), "--t": ("use", "--q"), "grow": ("use", "--t")}),
                         ("r", {"--p": "r", "size": 3, "--q": ("use", "--t")}))
        # A use comes to a worth that the table lets.
        self.none_of(sheet, [((), "ink", "use", 0), ((), "--p", "plain", 0)])
        self.assertEqual(worth_by(sheet, [((), "ink", "use", 0), ((), "--p", "plain", 1)]), "r")
        self.none_of(sheet, [((), "ink", "use", 0), ((), "--p", "first", None)])
        self.none_of(sheet, [((0,), "ink", "use", 0), ((0,), "--p", "handed", None), ((), "--p", "first", None)])
        self.assertIsNone(worth_by(sheet, [((0,), "--p", "handed", None), ((), "--p", "first", None)]))
        # What is handed down is first at the root alone; all else is never handed.
        self.none_of(sheet, [((0,), "ink", "first", None)])
        self.none_of(sheet, [((), "ink", "handed", None)])
        self.none_of(sheet, [((0,), "grow", "handed", None), ((), "grow", "first", None)])
        self.assertEqual(worth_by(sheet, [((0, 3), "grow", "first", None)]), 0)
        # Paths go up by one.
        self.assertEqual(worth_by(sheet, [((4, 2), "size", "handed", None), ((4,), "size", "plain", 1)]), 3)
        self.none_of(sheet, [((4, 2), "size", "handed", None), ((), "size", "plain", 1)])
        self.none_of(sheet, [((4, 2), "size", "handed", None), ((2,), "size", "plain", 1)])
        # Who uses itself goes round; no element has two winners of a word; uses that go round are told so.
        self.none_of(sheet, [((), "--s", "fallback", 0)])
        self.assertEqual(worth_by(sheet, [((), "--s", "round", 0), ((), "--s", "fallback", 0)]), 3)
        self.none_of(sheet, [((), "--t", "use", 0), ((), "--q", "use", 1), ((), "--t", "empty", 0)])
        self.none_of(sheet, [((), "grow", "use", 0), ((), "--t", "round", 0), ((), "--t", "empty", 0)])

    def test_times_that_come_to_nothing(self):
        sheet = sheet_of(("r", {"size": ("times", 200), "--p": "auto"}), ("r", {"size": ("use", "--p")}))
        self.none_of(sheet, [((0,), "size", "times", 0), ((), "size", "use", 1), ((), "--p", "plain", 0)])
        self.none_of(sheet, [((0,), "size", "times", 0), ((), "size", "use", 1), ((), "--p", "first", None)])
        self.none_of(sheet, [((0,), "size", "times", 0)])
        self.none_of(sheet, [((0,), "size", "times", 0), ((0,), "size", "plain", 0)])

    def test_great_depth(self):
        depth = 190
        node = ("a", [], [])
        for _ in range(depth):
            node = ("a", [], [node])
        tree = Tree(node)
        sheet = sheet_of(("a", {"size": ("times", 101), "ink": "as-parent", "--p": ("use", "--q"), "--q": ("use", "--s", 3)}))
        path = (0,) * depth
        for word in ("size", "ink", "align"):
            reasons = why_worth(sheet, tree, path, word, WIDTH)
            self.assertEqual(len(reasons), depth + 1)
            self.assertEqual(worth_by(sheet, reasons), worth_of(sheet, tree, path, word, WIDTH))

    def test_errors_in_order(self):
        sheet = sheet_of(("r", {"ink": "r"}))
        for path in (None, (1,), (0, 0, 0), (True,), "r", deep_list(2000)):
            self.assert_keeps(NoElement, path, why_worth, sheet, TREE, path, None, None)
        for word in (None, "", "--", "inks", "--P", ["ink"], 5, sheet, {}):
            self.assert_keeps(BadWord, word, why_worth, sheet, TREE, [0], word, None)
        for width in (None, 5, (5,), (5, 0), (-1, 1), (True, 1), [5, 1, 1], "5"):
            self.assert_keeps(BadWidth, width, why_worth, sheet, TREE, (0,), "--p", width)


if __name__ == "__main__":
    unittest.main()
