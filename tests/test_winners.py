import unittest

from naive import Asserts, Dice, deep_node, nodes_of, some_node
from pagefall.errors import BadWidth, BadWord, NoElement
from pagefall.sheets import Sheet
from pagefall.trees import Tree
from pagefall.winners import asked_rules, winner_of
from sheetwise import OWN_NAMES, VALUES, Plain, some_rule

ANY = [(None, (None, [], [], None))]
NAMED = [(None, ("a", [], [], None))]
CLASSED = [(None, (None, ["k"], [], None))]
LACKING = [(None, (None, [], ["z"], None))]
PLACED = [(None, (None, [], [], (0, 1)))]
CHILD = [(None, ("a", [], [], None)), ("child", ("r", [], [], None))]
TREE = Tree(("r", [], ["x", ("a", ["k"], []), ("b", [], [])]))


def rule(selector=ANY, level=0, condition=None, declared=None):
    return (level, selector, {"ink": "r"} if declared is None else declared, condition)


class WinnersTest(unittest.TestCase, Asserts):
    def asked(self, rules, path=(1,), word="ink", width=(5, 1)):
        numbers = asked_rules(Sheet(rules), TREE, path, word, width)
        self.assertEqual(winner_of(Sheet(rules), TREE, path, word, width), numbers[0] if numbers else None)
        return numbers

    def test_strength(self):
        self.assertEqual(self.asked([rule(), rule(), rule()]), [2, 1, 0])
        self.assertEqual(self.asked([rule(level=1), rule(level=3), rule(level=2), rule(level=0)]), [1, 2, 0, 3])
        self.assertEqual(self.asked([rule(CLASSED), rule(NAMED), rule(ANY)]), [0, 1, 2])
        self.assertEqual(self.asked([rule(CHILD), rule(CLASSED), rule(NAMED)]), [1, 0, 2])
        self.assertEqual(self.asked([rule(LACKING), rule(PLACED), rule(CLASSED)]), [2, 1, 0])
        self.assertEqual(self.asked([rule(NAMED, level=1), rule(CLASSED)]), [0, 1])

    def test_matching_and_declaring(self):
        self.assertEqual(self.asked([rule(NAMED), rule(CLASSED), rule()], (2,)), [2])
        self.assertEqual(self.asked([rule(NAMED)], ()), [])
        self.assertEqual(self.asked([rule(declared={"fill": "r"}), rule(declared={}), rule(declared={"ink": "as-parent"})]), [2])
        self.assertEqual(self.asked([rule(declared={"--p": 1}), rule(declared={"--q": 1})], word="--q"), [1])
        self.assertEqual(self.asked([], word="--never"), [])

    def test_conditions_at_their_ends(self):
        rules = [rule(condition=(0, 10)), rule(condition=(10, 20)), rule(condition=(20, None)), rule(condition=(0, None)), rule()]
        cases = {(0, 1): [4, 3, 0], (0, 7): [4, 3, 0], (99, 10): [4, 3, 0], (10, 1): [4, 3, 1], (100, 10): [4, 3, 1], (199, 10): [4, 3, 1], (20, 1): [4, 3, 2],
                 (19999, 1000): [4, 3, 1], (10 ** 17, 1): [4, 3, 2], (59, 3): [4, 3, 1], (60, 3): [4, 3, 2], (61, 3): [4, 3, 2]}
        for width, numbers in cases.items():
            self.assertEqual(self.asked(rules, width=width), numbers, width)
            self.assertEqual(self.asked(rules, width=list(width)), numbers, width)

    def test_errors_in_order(self):
        sheet = Sheet([rule()])
        for work in (asked_rules, winner_of):
            for path in (None, 1, (0,), (True,), [0], "1", (9,)):
                self.assert_keeps(NoElement, path, work, sheet, TREE, path, None, None)
            for word in (None, 1, True, "", "--", "inks", "--P", ["ink"], ("ink",), {}, sheet, TREE):
                self.assert_keeps(BadWord, word, work, sheet, TREE, (1,), word, None)
            for width in (None, 5, "5", (), (5,), (5, 0), (-1, 1), (5, -1), (True, 1), (1, True), (1, 1, 1), (1, None), {1: 1}, sheet):
                self.assert_keeps(BadWidth, width, work, sheet, TREE, (1,), "ink", width)

    def test_against_plain(self):
        dice = Dice(61)
        for _ in range(40):
            rules = [some_rule(dice) for _ in range(6)]
            root = some_node(dice, ["a", "b"], ["k"], 8)
            width = dice.pick([(0, 1), (50, 1), (399, 4), (100, 1), (200, 1)])
            sheet, tree, plain = Sheet(rules), Tree(root), Plain(rules, dict(nodes_of(root)), width)
            for path in tree.all_elements():
                for word in list(VALUES) + OWN_NAMES:
                    numbers = plain.asked(path, word)
                    self.assertEqual(asked_rules(sheet, tree, path, word, width), numbers)
                    self.assertEqual(winner_of(sheet, tree, path, word, width), numbers[0] if numbers else None)

    def test_new_names_and_limits(self):
        sheet = Sheet([rule()] * 30)
        deep = Tree(deep_node(200))
        asked_rules(sheet, deep, (0,) * 199, "ink", (1, 1)).clear()
        self.assertEqual(asked_rules(sheet=sheet, tree=deep, path=(0,) * 199, word="ink", width=(1, 1)), list(range(29, -1, -1)))
        self.assertEqual(winner_of(sheet=sheet, tree=deep, path=(0,) * 199, word="ink", width=(1, 1)), 29)
        self.assertIsNone(winner_of(Sheet([]), deep, (), "ink", (0, 1)))


if __name__ == "__main__":
    unittest.main()
