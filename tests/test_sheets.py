import unittest

from naive import Asserts, deep_list
from pagefall.errors import BadNumber, BadRule
from pagefall.sheets import Sheet
from pagefall.trees import Tree

ANY = [(None, (None, [], [], None))]
B = [(None, ("b", ["m", "k"], [], [2, 1]))]
PART, TIMES = ("part", 50), ("times", 150)
WORDS = ["show", "side", "width", "base", "height", "least", "most", "mleft", "mright", "pleft", "pright", "mtop", "mbottom", "ptop",
         "pbottom", "grow", "gap", "shrink", "span", "wrap", "size", "align", "layer", "at", "fill", "ink"]
# For each property values that the table lets, those at the ends ahead, and values that it does not let.
LET = {
    "show": (["block", "line", "row", "table", "none"], ["auto", "no"]),
    "side": (["none", "left", "right"], ["mid", "auto"]),
    "width base mleft mright": (["auto", 0, 10 ** 6, ("part", 0), PART], ["none", -1, ("part", -1), TIMES]),
    "height": (["auto", 0, 10 ** 6], ["none", -1, PART]),
    "least mtop mbottom ptop pbottom grow gap shrink": ([0, 1, 10 ** 6], [-1, "auto", "none", PART]),
    "most": (["none", 0, 7], ["auto", -1, PART]),
    "pleft pright": ([0, 7, PART, ["part", 3]], ["auto", -1, "none", ("part",), ("part", 1, 1)]),
    "span": ([1, 10 ** 6], [0, -1, "auto"]),
    "wrap": (["no", "yes"], ["none", "auto"]),
    "size": ([1, 10 ** 6, ("times", 1), TIMES], [0, -1, ("times", 0), PART, "auto"]),
    "align": (["left", "mid", "right"], ["none"]),
    "layer": ([0, -(10 ** 6), 10 ** 6], ["none", PART]),
    "at": (["none", (0, 0), (PART, -5), [["part", 0], 10 ** 6]], ["auto", (-1, 0), (0, PART), PART, (0,), (0, 0, 0), 0]),
    "fill": (["none", "a", "z"], ["A", "ab", "", "1"]),
    "ink": (["a", "z"], ["none", "ab", ""]),
}
NEVER = [None, True, False, 1.5, "", {}, [], (), ("use",), ("use", "p"), ("use", "--"), ("use", "--P"), ("use", "--p", True), ("use", "--p", "start"),
         ("use", "--p", ("use", "--q")), ("use", "--p", 1, 1), ("times", "--p"), ("part", "--p"), (1, "--p"), deep_list(500), Tree(("a", [], [])), ("part", True), ("times", True), (0, True)]


def rule(declarations, level=0, selector=ANY, condition=None):
    return (level, selector, declarations, condition)


def rows_of(table):
    return [(word, right, wrong) for words, (right, wrong) in table.items() for word in words.split()]


class SheetsTest(unittest.TestCase, Asserts):
    def is_let(self, word, value):
        try:
            Sheet([rule({word: value})])
        except BadRule as caught:
            self.assertEqual(caught.index, 0)
            return False
        return True

    def test_values_of_properties(self):
        rows = rows_of(LET)
        self.assertEqual(sorted(row[0] for row in rows), sorted(WORDS))
        for word, right, wrong in rows:
            for value in right:
                self.assertIs(self.is_let(word, value), True, (word, value))
                self.assertIs(self.is_let(word, ("use", "--p", value)), True, (word, value))
            for value in wrong + NEVER:
                self.assertIs(self.is_let(word, value), False, (word, value))
                self.assertIs(self.is_let(word, ("use", "--p", value)), False, (word, value))
            for value in ("as-parent", "start", ("use", "--p"), ["use", "--abcdefgh"]):
                self.assertIs(self.is_let(word, value), True, (word, value))

    def test_values_of_own_names(self):
        for _, right, _ in rows_of(LET):
            for value in right:
                self.assertIs(self.is_let("--p", value), True, value)
                self.assertIs(self.is_let("--p", ("use", "--p", value)), True, value)
        for value in ["as-parent", "start", ("part", -1), ("times", 0), (-1, 0), "A", "ab", "center"] + NEVER:
            self.assertIs(self.is_let("--p", value), False, value)
            self.assertIs(self.is_let("--p", ("use", "--p", value)), False, value)
        self.assertIs(self.is_let("--p", ("use", "--q")), True)

    def test_words(self):
        for word in ("--a", "--abcdefgh"):
            self.assertIs(self.is_let(word, 1), True)
        for word in ("", "--", "-p", "--P", "--abcdefghi", "--p1", "p", "Show", None, 1, True, ("show",), "---p", "-- p"):
            self.assertIs(self.is_let(word, 1), False, word)

    def test_rules(self):
        right = [rule({}), list(rule({})), rule({}, 3), rule({}, 0, B), rule({}, 0, ANY, (0, 1)), rule({}, 0, ANY, [5, None]), rule({}, 0, ANY, (7, 10 ** 6))]
        self.assertEqual(len(Sheet(right)), 7)
        wrong = [
            None, 1, "rule", {}, [], (), (0, ANY, {}), (0, ANY, {}, None, None), rule({}, -1), rule({}, 4), rule({}, True), rule({}, None),
            rule({}, "0"), rule({}, 0, []), rule({}, 0, None), rule({}, 0, [("child", ANY[0][1])]), rule(None), rule([]), rule([("show", "row")]),
            rule({}, 0, ANY, ()), rule({}, 0, ANY, (1, 1)), rule({}, 0, ANY, (2, 1)), rule({}, 0, ANY, (-1, 1)), rule({}, 0, ANY, (None, 1)),
            rule({}, 0, ANY, (True, 5)), rule({}, 0, ANY, (0, True)), rule({}, 0, ANY, 5), rule({}, 0, ANY, (0, 1, 2)), rule({}, 0, ANY, (0, "1")),
            deep_list(2000), Tree(("a", [], [])), Sheet([]), rule({"show": "row", "side": "up"}), rule({"show": deep_list(2000)}),
        ]
        for thing in wrong:
            self.assert_raises(BadRule, 0, Sheet, [thing])
            self.assert_raises(BadRule, 2, Sheet, (right[0], right[1], thing, None))
            self.assert_raises(BadRule, 1, Sheet([rule({})]).with_rule, thing, 1)
        for thing in (None, 1, True, "rules", {}, Sheet([]), Tree(("a", [], []))):
            self.assert_raises(BadRule, 0, Sheet, thing)

    def test_told(self):
        words = {"--q": ["use", "--p", ["part", 3]], "ink": "r", "--p": [["part", 4], 5], "show": "row", "at": [["part", 0], -1], "size": ["times", 5]}
        told = Sheet(([2, ((None, ["b", ("m", "k"), ("z", "c"), [2, 1]]), ["child", (None, (), (), None)]), words, [0, None]],)).all_rules()
        selector = [(None, ("b", ["k", "m"], ["c", "z"], (2, 1))), ("child", (None, [], [], None))]
        declared = {"show": "row", "size": ("times", 5), "at": (("part", 0), -1), "ink": "r", "--p": (("part", 4), 5), "--q": ("use", "--p", ("part", 3))}
        self.assertEqual(told, [(2, selector, declared, (0, None))])
        self.assertEqual(list(told[0][2]), list(declared))
        all_words = {word: ("use", "--p") for word in WORDS[::-1]}
        self.assertEqual(list(Sheet([rule(all_words)]).all_rules()[0][2]), WORDS)
        self.assertEqual(Sheet([]).all_rules(), [])

    def test_with_and_without(self):
        one, two, three = rule({"ink": "a"}), rule({"ink": "b"}, 1), rule({"ink": "c"}, 2)
        sheet = Sheet([one, two])
        self.assertEqual([sheet.with_rule(three, number).all_rules() for number in range(3)], [[three, one, two], [one, three, two], [one, two, three]])
        self.assertEqual([sheet.without_rule(number).all_rules() for number in range(2)], [[two], [one]])
        self.assertEqual(Sheet([]).with_rule(one, 0), Sheet([one]))
        self.assertEqual(sheet.all_rules(), [one, two])
        for number in (-1, 3, True, False, None, "0", 0.0, (0,), deep_list(9), sheet):
            self.assert_keeps(BadNumber, number, sheet.with_rule, None, number)
        for number in (-1, 2, True, False, None, "0", [0]):
            self.assert_keeps(BadNumber, number, sheet.without_rule, number)
        self.assert_raises(BadNumber, 0, Sheet([]).without_rule, 0)
        self.assert_raises(BadRule, 2, sheet.with_rule, None, 2)

    def test_equal(self):
        sheet = Sheet([rule({"ink": "a", "--p": ("part", 3)}, 1, B, (0, 5)), rule({})])
        other = Sheet(([1, [[None, ["b", ["k", "m"], (), (2, 1)]]], {"--p": ["part", 3], "ink": "a"}, [0, 5]], rule({})))
        self.assertTrue(sheet == other)
        self.assertEqual(len(sheet), 2)
        others = [Sheet([]), Sheet([rule({})]), Sheet([rule({}), rule({})]), Sheet([rule({}, 1)]), Sheet([rule({}, 0, B)]), Sheet([rule({}, 0, ANY, (0, None))]),
                  Sheet([rule({"ink": "a"})]), Sheet([rule({"ink": "b"})]), sheet, Sheet(sheet.all_rules()[::-1])]
        for k, one in enumerate(others):
            self.assertEqual([one == two for two in others], [k == j for j in range(len(others))])
            for thing in (None, [], 0, one.all_rules(), Tree(("a", [], []))):
                self.assertFalse(one == thing)

    def test_passed_and_told_stay_apart(self):
        classes, declared, rules = ["k"], {"at": [3, 4]}, []
        rules.append([0, [[None, ["b", classes, [], None]]], declared, [1, 2]])
        sheet = Sheet(rules)
        kept = sheet.all_rules()
        classes.append("m")
        declared["at"].append(5)
        declared["ink"] = "r"
        rules[0][3].append(1)
        rules.append(None)
        told = sheet.all_rules()
        told[0][2]["ink"] = "r"
        told[0][1][0][1][1].append("m")
        told.append(None)
        self.assertEqual(sheet.all_rules(), kept)
        self.assertEqual(kept, [(0, [(None, ("b", ["k"], [], None))], {"at": (3, 4)}, (1, 2))])

    def test_by_names(self):
        sheet = Sheet(rules=[rule({})])
        self.assertEqual(sheet.with_rule(rule=rule({}), number=0).without_rule(number=1), sheet)

    def test_limits(self):
        names = ["--" + chr(97 + k // 26) + chr(97 + k % 26) for k in range(900)]
        rules = [rule({names[30 * k + j]: 10 ** 6 for j in range(30)}) for k in range(30) if k < 22]
        sheet = Sheet(rules + [rule({word: "start" for word in WORDS})] * 8)
        self.assertEqual(len(sheet), 30)
        self.assertEqual(Sheet(sheet.all_rules()), sheet)


if __name__ == "__main__":
    unittest.main()
