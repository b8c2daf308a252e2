import unittest

from naive import Asserts, Dice, deep_node, nodes_of, some_node, some_selector
from pagefall.errors import BadWidth, BadWord, NoElement
from pagefall.sheets import Sheet
from pagefall.trees import Tree
from pagefall.winners import winner_of
from pagefall.worths import all_worths, own_worth, ringed_names, worth_of
from sheetwise import FIRSTS, OWN_NAMES, VALUES, Plain, some_rule

ANY = [(None, (None, [], [], None))]
WIDTH = (5, 1)


def named(name):
    return [(None, (name, [], [], None))]


def sheet_of(**declared):
    """A sheet with a rule for each name: letters of names of elements, "all" for all."""
    return Sheet([(0, ANY if name == "all" else named(name), words, None) for name, words in declared.items()])


def chain(names):
    """A tree of elements of these names, each in the one ahead, and the path of the last one."""
    node = (names[-1], [], [])
    for name in names[-2::-1]:
        node = (name, [], [node])
    return Tree(node), (0,) * (len(names) - 1)


class OwnWorthsTest(unittest.TestCase, Asserts):
    def own(self, sheet, names, word="--p"):
        tree, path = chain(names)
        return own_worth(sheet, tree, path, word, WIDTH)

    def ringed(self, sheet, names):
        tree, path = chain(names)
        return ringed_names(sheet, tree, path, WIDTH)

    def test_plain(self):
        self.assertIsNone(self.own(Sheet([]), "a"))
        self.assertIsNone(self.own(Sheet([]), "ab"))
        self.assertEqual(self.own(sheet_of(a={"--p": 0}), "a"), 0)
        self.assertEqual(self.own(sheet_of(a={"--p": [["part", 3], 4]}), "abc"), (("part", 3), 4))
        self.assertEqual(self.own(sheet_of(a={"--p": 1}, b={"--p": 2}), "abc"), 2)
        self.assertIsNone(self.own(sheet_of(b={"--p": 2}), "ab", "--q"))

    def test_uses(self):
        self.assertEqual(self.own(sheet_of(a={"--q": 7, "--p": ("use", "--q")}), "a"), 7)
        self.assertEqual(self.own(sheet_of(a={"--q": 7}, b={"--p": ("use", "--q", 8)}), "ab"), 7)
        self.assertEqual(self.own(sheet_of(a={"--p": ("use", "--q", 8)}), "a"), 8)
        self.assertIsNone(self.own(sheet_of(a={"--p": ("use", "--q")}), "a"))
        self.assertIsNone(self.own(sheet_of(a={"--p": 5}, b={"--p": ("use", "--q")}), "ab"))
        self.assertEqual(self.own(sheet_of(a={"--q": 0, "--p": ("use", "--q", 8)}), "a"), 0)
        # The use is taken where it is said: the parent's worth is handed down, not its use.
        self.assertEqual(self.own(sheet_of(a={"--q": 1, "--p": ("use", "--q")}, b={"--q": 2}), "ab"), 1)

    def test_rings(self):
        alone = sheet_of(a={"--p": 3}, b={"--p": ("use", "--p")})
        self.assertIsNone(self.own(alone, "ab"))
        self.assertEqual(self.ringed(alone, "ab"), ["--p"])
        self.assertEqual(self.ringed(alone, "a"), [])
        self.assertEqual(self.own(sheet_of(a={"--p": ("use", "--p", 4)}), "a"), 4)
        ring = sheet_of(a={"--p": ("use", "--q", 1), "--q": ("use", "--s"), "--s": ("use", "--p", 3), "--t": ("use", "--q", 4), "--u": ("use", "--s", 5)})
        self.assertEqual([self.own(ring, "a", "--" + letter) for letter in "pqstu"], [1, None, 3, 4, 3])
        self.assertEqual(self.ringed(ring, "a"), ["--p", "--q", "--s"])
        self.assertEqual(self.ringed(ring, "ab"), [])
        self.assertEqual([self.own(ring, "ab", "--" + letter) for letter in "pqstu"], [1, None, 3, 4, 3])

    def test_rings_stand_at_one_element(self):
        sheet = sheet_of(a={"--p": ("use", "--q", 1), "--q": 2}, b={"--q": ("use", "--p", 3)})
        self.assertEqual(self.ringed(sheet, "ab"), [])
        self.assertEqual([self.own(sheet, "ab", "--p"), self.own(sheet, "ab", "--q")], [2, 2])

    def test_two_rings(self):
        sheet = sheet_of(a={"--b": ("use", "--a"), "--a": ("use", "--b", 1), "--d": ("use", "--c", 2), "--c": ("use", "--d"), "--e": ("use", "--c", 3)})
        self.assertEqual(self.ringed(sheet, "a"), ["--a", "--b", "--c", "--d"])
        self.assertEqual([self.own(sheet, "a", "--" + letter) for letter in "abcde"], [1, None, None, 2, 3])

    def test_long_chains(self):
        words = {"--" + letter: ("use", "--" + after) for letter, after in zip("abcdefgh", "bcdefghi")}
        self.assertEqual(self.own(sheet_of(a=dict(words, **{"--i": 9})), "a", "--a"), 9)
        self.assertIsNone(self.own(sheet_of(a=words), "a", "--a"))
        many = ["--" + chr(97 + k // 26) + chr(97 + k % 26) for k in range(600)]
        rules = [(0, ANY, {many[k]: ("use", many[k + 1]) for k in range(30 * j, 30 * j + 30) if k < 599}, None) for j in range(20)]
        tree, path = chain("abc")
        self.assertIsNone(own_worth(Sheet(rules), tree, path, many[0], WIDTH))
        closed = Sheet(rules + [(0, ANY, {many[599]: ("use", many[0], 6)}, None)])
        self.assertEqual(ringed_names(closed, tree, path, WIDTH), many)
        self.assertEqual(own_worth(closed, tree, path, many[599], WIDTH), 6)

    def test_errors_in_order(self):
        tree, _ = chain("ab")
        sheet = Sheet([])
        for path in (None, 0, (1,), (True,), [0, 0]):
            self.assert_keeps(NoElement, path, own_worth, sheet, tree, path, None, None)
            self.assert_keeps(NoElement, path, ringed_names, sheet, tree, path, None)
        for word in (None, "ink", "--", "--P", "p", 1, ["--p"], tree):
            self.assert_keeps(BadWord, word, own_worth, sheet, tree, (0,), word, None)
        for width in (None, 1, (1, 0), (-1, 2), (1, True)):
            self.assert_keeps(BadWidth, width, own_worth, sheet, tree, (0,), "--p", width)
            self.assert_keeps(BadWidth, width, ringed_names, sheet, tree, (0,), width)


class WorthsTest(unittest.TestCase, Asserts):
    def worth(self, sheet, names, word):
        tree, path = chain(names)
        worth = worth_of(sheet, tree, path, word, WIDTH)
        self.assertEqual(all_worths(sheet, tree, WIDTH)[path][word], worth)
        return worth

    def test_first_worths(self):
        tree, _ = chain("ab")
        root = dict(FIRSTS, show="block")
        for sheet in (Sheet([]), sheet_of(all={word: "start" for word in FIRSTS})):
            worths = all_worths(sheet, tree, (0, 1))
            self.assertEqual(worths, {(): root, (0,): FIRSTS})
            self.assertEqual([list(row) for row in worths.values()], [list(FIRSTS)] * 2)
        as_parent = all_worths(sheet_of(all={word: "as-parent" for word in FIRSTS}), tree, (0, 1))
        self.assertEqual(as_parent, {(): root, (0,): root})
        unlike = {"size": 4, "align": "mid", "ink": "q", "show": "row", "fill": "r", "layer": -1}
        below = all_worths(sheet_of(a=unlike), chain("abc")[0], WIDTH)
        self.assertEqual(below[(0, 0)], dict(FIRSTS, size=4, align="mid", ink="q"))
        below = all_worths(sheet_of(a=unlike, b={word: "as-parent" for word in FIRSTS}), chain("ab")[0], WIDTH)
        self.assertEqual(below[(0,)], dict(FIRSTS, **unlike))
        below = all_worths(sheet_of(a=unlike, b={word: "start" for word in FIRSTS}), chain("abc")[0], WIDTH)
        self.assertEqual(below[(0, 0)], FIRSTS)

    def test_uses(self):
        self.assertEqual(self.worth(sheet_of(a={"--p": 7, "width": ("use", "--p")}), "a", "width"), 7)
        self.assertEqual(self.worth(sheet_of(a={"--p": "w", "width": ("use", "--p", 3)}), "a", "width"), 3)
        self.assertEqual(self.worth(sheet_of(a={"--p": "w", "width": ("use", "--p")}), "a", "width"), "auto")
        self.assertEqual(self.worth(sheet_of(a={"width": ("use", "--p", ["part", 4])}), "a", "width"), ("part", 4))
        self.assertEqual(self.worth(sheet_of(a={"--p": 0}, b={"layer": ("use", "--p", 3)}), "ab", "layer"), 0)
        self.assertEqual(self.worth(sheet_of(a={"--p": 0}, b={"layer": ("use", "--p", 3)}), "xyab", "layer"), 0)
        self.assertEqual(self.worth(sheet_of(a={"--p": 0}, x={"--p": 5}, b={"layer": ("use", "--p", 3)}), "xayb", "layer"), 0)
        self.assertEqual(self.worth(sheet_of(a={"ink": "g"}, b={"ink": ("use", "--p")}), "ab", "ink"), "g")
        self.assertEqual(self.worth(sheet_of(a={"fill": "g"}, b={"fill": ("use", "--p")}), "ab", "fill"), "none")
        self.assertEqual(self.worth(sheet_of(a={"ink": "g", "--p": "none"}, b={"ink": ("use", "--p", "r")}), "ab", "ink"), "r")
        self.assertEqual(self.worth(sheet_of(a={"show": ("use", "--p")}), "a", "show"), "block")
        ring = sheet_of(a={"--p": ("use", "--q"), "--q": ("use", "--p", 6), "height": ("use", "--q", 5), "least": ("use", "--p", 4)})
        self.assertEqual([self.worth(ring, "a", "height"), self.worth(ring, "a", "least")], [6, 4])
        # The own name is asked where it is used, not at the element that a worth is handed down to.
        down = sheet_of(a={"--p": "r", "ink": ("use", "--p")}, b={"--p": "g"})
        self.assertEqual(self.worth(down, "ab", "ink"), "r")

    def test_times(self):
        self.assertEqual(self.worth(sheet_of(a={"size": ("times", 150)}), "a", "size"), 15)
        self.assertEqual(self.worth(sheet_of(a={"size": ("times", 199)}), "a", "size"), 19)
        self.assertEqual(self.worth(sheet_of(a={"size": ("times", 1)}), "a", "size"), 1)
        self.assertEqual(self.worth(sheet_of(a={"size": 7}, b={"size": ("times", 50)}), "ab", "size"), 3)
        self.assertEqual(self.worth(sheet_of(a={"size": 7}, b={"size": ("times", 50)}), "abcb", "size"), 1)
        self.assertEqual(self.worth(sheet_of(a={"size": ("times", 200)}), "ab", "size"), 20)
        self.assertEqual(self.worth(sheet_of(a={"--p": ("times", 300)}, b={"size": ("use", "--p")}), "ab", "size"), 30)
        self.assertEqual(self.worth(sheet_of(a={"--p": ("times", 300)}, b={"size": ("use", "--p")}), "abb", "size"), 90)
        self.assertEqual(self.worth(sheet_of(a={"size": ("use", "--p", ("times", 250))}), "a", "size"), 25)
        self.assertEqual(self.worth(sheet_of(a={"size": ("use", "--p")}, b={"size": ("use", "--q", ("times", 250))}), "ab", "size"), 25)
        self.assertEqual(own_worth(sheet_of(a={"--p": ("times", 300)}), chain("ab")[0], (0,), "--p", WIDTH), ("times", 300))

    def test_conditions(self):
        sheet = Sheet([(0, ANY, {"ink": "a"}, (0, 10)), (0, ANY, {"ink": "b", "--p": 4}, (10, 20)), (0, ANY, {"grow": ("use", "--p", 1)}, None)])
        tree, _ = chain("a")
        told = [(worth_of(sheet, tree, (), "ink", width), worth_of(sheet, tree, (), "grow", width)) for width in ((0, 1), (999, 100), (10, 1), (399, 20), (20, 1))]
        self.assertEqual(told, [("a", 1), ("a", 1), ("b", 4), ("b", 4), ("x", 1)])

    def test_against_plain(self):
        dice = Dice(71)
        for _ in range(40):
            rules = [some_rule(dice) for _ in range(6)]
            root = some_node(dice, ["a", "b"], ["k"], 8)
            width = dice.pick([(0, 1), (50, 1), (399, 4), (100, 1), (200, 1)])
            sheet, tree, plain = Sheet(rules), Tree(root), Plain(rules, dict(nodes_of(root)), width)
            worths = all_worths(sheet, tree, width)
            self.assertEqual(list(worths), tree.all_elements())
            for path in tree.all_elements():
                for word in VALUES:
                    worth = plain.worth(path, word)
                    self.assertEqual(worth_of(sheet, tree, path, word, width), worth)
                    self.assertEqual(worths[path][word], worth)
                for word in OWN_NAMES:
                    self.assertEqual(own_worth(sheet, tree, path, word, width), plain.own(path, word))
                self.assertEqual(ringed_names(sheet, tree, path, width), [word for word in OWN_NAMES if plain.is_ringed(path, word)])

    def test_errors_in_order(self):
        tree, _ = chain("ab")
        sheet = Sheet([])
        for path in (None, 0, (1,), (True,), [0, 0], "0"):
            self.assert_keeps(NoElement, path, worth_of, sheet, tree, path, None, None)
        for word in (None, "--p", "inks", "", 1, ["ink"], sheet):
            self.assert_keeps(BadWord, word, worth_of, sheet, tree, (0,), word, None)
        for width in (None, 1, True, "1", (1,), (1, 0), (-1, 2), (1, True), (0, -1), [1, None], tree):
            self.assert_keeps(BadWidth, width, worth_of, sheet, tree, (0,), "ink", width)
            self.assert_keeps(BadWidth, width, all_worths, sheet, tree, width)

    def test_told_is_new_and_names(self):
        sheet, (tree, path) = sheet_of(a={"--p": ("use", "--p")}), chain("ab")
        worths = all_worths(sheet=sheet, tree=tree, width=[5, 1])
        worths[()]["ink"] = "q"
        worths[path].clear()
        self.assertEqual(all_worths(sheet, tree, WIDTH)[path]["ink"], "x")
        self.assertEqual(worth_of(sheet=sheet, tree=tree, path=path, word="ink", width=(10, 2)), "x")
        self.assertIsNone(own_worth(sheet=sheet, tree=tree, path=path, word="--p", width=WIDTH))
        ringed_names(sheet=sheet, tree=tree, path=(), width=WIDTH).clear()
        self.assertEqual(ringed_names(sheet, tree, (), WIDTH), ["--p"])


class FactsTest(unittest.TestCase):
    def throws(self, seed, many):
        dice = Dice(seed)
        for _ in range(many):
            rules = [some_rule(dice) for _ in range(5)]
            yield dice, rules, Tree(some_node(dice, ["a", "b"], ["k"], 8)), dice.pick([(0, 1), (50, 1), (100, 1)])

    def test_what_wins_nowhere_can_be_left_out(self):
        for _, rules, tree, width in self.throws(81, 25):
            worths = all_worths(Sheet(rules), tree, width)
            kept = []
            for number, (level, selector, declared, condition) in enumerate(rules):
                wins = [word for word in declared
                        if any(winner_of(Sheet(rules), tree, path, word, width) == number for path in tree.all_elements())]
                kept.append((level, selector, {word: declared[word] for word in wins}, condition))
            self.assertEqual(all_worths(Sheet(kept), tree, width), worths)

    def test_levels_alike_and_rules_twice(self):
        for dice, rules, tree, width in self.throws(82, 25):
            rules = [(min(level, 2), selector, declared, condition) for level, selector, declared, condition in rules]
            worths = all_worths(Sheet(rules), tree, width)
            raised = [(level + 1, selector, declared, condition) for level, selector, declared, condition in rules]
            self.assertEqual(all_worths(Sheet(raised), tree, width), worths)
            twice = dice.throw(5)
            self.assertEqual(all_worths(Sheet(rules[:twice + 1] + rules[twice:]), tree, width), worths)

    def test_called_otherwise(self):
        calls = {"a": "zz", "b": "y", "k": "a", None: None}

        def node_called(node):
            if isinstance(node, str):
                return node
            return (calls[node[0]], [calls[klass] for klass in node[1]], [node_called(child) for child in node[2]])

        for _, rules, tree, width in self.throws(83, 25):
            called = []
            for level, selector, declared, condition in rules:
                steps = [(relation, (calls[name], [calls[word] for word in has], [calls[word] for word in lacks], place))
                         for relation, (name, has, lacks, place) in selector]
                called.append((level, steps, declared, condition))
            other = Tree(node_called(tree.root_node()))
            self.assertEqual(all_worths(Sheet(called), other, width), all_worths(Sheet(rules), tree, width))

    def test_what_stands_below_or_behind_is_never_asked(self):
        for dice, rules, tree, width in self.throws(84, 25):
            sheet = Sheet(rules)
            path = dice.pick(tree.all_elements())
            row = all_worths(sheet, tree, width)[path]
            within = tree.with_node(path + (0,), ("b", ["k"], ["t"]))
            self.assertEqual(all_worths(sheet, within, width)[path], row)
            if path:
                behind = tree.with_node(path[:-1] + (path[-1] + 1,), ("a", ["k"], []))
                self.assertEqual(all_worths(sheet, behind, width)[path], row)
                text = tree.with_node(path, "text")
                self.assertEqual(all_worths(sheet, text, width)[path[:-1] + (path[-1] + 1,)], row)


class LimitsTest(unittest.TestCase):
    def test_deep_tree_and_full_sheet(self):
        dice = Dice(91)
        words = list(FIRSTS) + ["--p", "--q", "--s", "--t"]
        rules = []
        for _ in range(30):
            selector = some_selector(dice, ["a"], ["k"], 5)
            rules.append((dice.throw(3), selector, {word: ("use", "--p") for word in words}, None))
        rules.append((3, [(None, ("a", ["k"], [], None))] + [("below", ("a", [], [], None))] * 4, {"size": ("times", 10 ** 6), "ink": "q"}, None))
        sheet, tree = Sheet(rules[1:]), Tree(deep_node(200))
        worths = all_worths(sheet, tree, (10 ** 17, 3))
        self.assertEqual(len(worths), 200)
        last = (0,) * 199
        self.assertEqual(worths[last]["ink"], "q")
        self.assertEqual(worths[last]["size"], worths[(0, 0, 0)]["size"] * (10 ** 4) ** 196)
        self.assertEqual(worth_of(sheet, tree, last, "size", (10 ** 17, 3)), worths[last]["size"])

    def test_broad_tree(self):
        tree = Tree(("r", [], [("a", ["k"], []) for _ in range(199)]))
        sheet = Sheet([(0, [(None, ("a", [], [], (4, k % 4)))], {"layer": k, "--p": k}, None) for k in range(30)])
        worths = all_worths(sheet, tree, (0, 1))
        self.assertEqual([worths[(k,)]["layer"] for k in range(4)], [29, 26, 27, 28])
        self.assertEqual(own_worth(sheet, tree, (198,), "--p", (0, 1)), 27)


if __name__ == "__main__":
    unittest.main()
