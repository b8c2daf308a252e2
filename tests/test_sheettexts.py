import unittest

from naive import Asserts, Dice, deep_list, some_selector
from pagefall.errors import BadSelector, BadText, BadValue
from pagefall.properties import PROPERTIES
from pagefall.selectors import is_selector
from pagefall.sheets import Sheet
from pagefall.sheettexts import read_selector, read_sheet, read_value, write_selector, write_sheet, write_value
from pagefall.trees import Tree

SELECTOR = [(None, ("b", [], [], None)), ("behind", ("a", [], ["k"], None)), ("child", (None, ["k"], [], None))]
GREAT = 10 ** 18 - 1
VALUES = {
    "show": ["block", "line", "row", "table", "none"], "side": ["left", "right"], "width": ["auto", 0, 7, ("part", 0), ("part", GREAT)], "most": ["none", GREAT],
    "layer": [-5, 0, -GREAT], "at": ["none", (3, -4), (("part", 50), 0)], "size": [1, ("times", 7)], "wrap": ["no", "yes"], "align": ["mid"],
    "fill": ["a", "z"], "ink": ["p"],
}
EVERY = ["as-parent", "start", ("use", "--w"), ("use", "--abcdefgh")]
NO_TEXTS = [None, 5, True, (), ["*"], {}, b"*", deep_list(2000)]


def some_rules(dice, many):
    rules = []
    for _ in range(many):
        declarations = {}
        for _ in range(dice.throw(5)):
            word = dice.pick(list(VALUES))
            declarations[word] = dice.pick(VALUES[word] + EVERY + [("use", "--w", dice.pick(VALUES[word]))])
            own = dice.pick(["--a", "--bc", "--zz"])
            declarations[own] = dice.pick(VALUES[dice.pick(list(VALUES))] + EVERY[2:] + [("use", "--a", dice.pick(VALUES["at"]))])
        condition = dice.pick([None, (0, None), (3, 9), (GREAT, GREAT + 1), (7, None)])
        rules.append((dice.throw(4), some_selector(dice, ["a", "bc"], ["k", "m"], 4), declarations, condition))
    return rules


def selectors_ascending(rules):
    return [(level, [(relation, (name, sorted(has), sorted(lacks), place)) for relation, (name, has, lacks, place) in selector], declarations, condition)
            for level, selector, declarations, condition in rules]


class SheetTextsTest(unittest.TestCase, Asserts):
    def test_the_example(self):
        self.assertEqual(write_selector(SELECTOR), "*.k > a!k ~ b")
        self.assertEqual(read_selector("*.k > a!k ~ b"), SELECTOR)
        sheet = Sheet([(1, SELECTOR, {"width": ("part", 50), "--w": 3}, (0, None))])
        text = "rule 1 0.. *.k > a!k ~ b\nset width 50p\nset --w 3\n"
        self.assertEqual(write_sheet(sheet), text)
        self.assertTrue(read_sheet(text) == sheet)

    def test_selectors_both_ways(self):
        self.assertEqual(write_selector(((None, [None, ["m", "k"], ("b", "a"), [2, 0]]), ("below", ("a", (), (), (0, 12))), ["next", (None, [], [], None)])),
                         "* + a:0.12 >> *.k.m!a!b:2.0")
        dice = Dice(151)
        for _ in range(200):
            selector = some_selector(dice, ["a", "bc", "abcdefgh"], ["k", "m", "n"], 5)
            text = write_selector(selector)
            back = read_selector(text)
            self.assertEqual(back, selectors_ascending([(0, selector, {}, None)])[0][1])
            self.assertEqual(write_selector(back), text)
        great = [(None, (None, [], [], (GREAT, GREAT - 1)))]
        self.assertEqual(read_selector(write_selector(great)), great)
        for thing in [None, 5, (), SELECTOR[1:], "*", [(None, ("b", [], []))], deep_list(2000)]:
            self.assert_keeps(BadSelector, thing, write_selector, thing)

    def test_texts_that_are_no_selectors(self):
        rows = [("", 0), (" ", 0), ("a ", 1), (" a", 0), ("a  > b", 1), ("a >", 2), ("a > ", 2), ("a > b +", 4), ("a > b + ", 4), ("a < b", 1), ("a >>> B", 1),
                ("a > B", 2), ("a b", 1), ("A > b", 0), ("a > b c > D", 3), ("*.", 0), (".k", 0), ("a.k.k", 0), ("a.m.k", 0), ("a!m!k", 0), ("a.k!k", 0), ("a!k.m", 0),
                ("**", 0), ("*a", 0), ("a:", 0), ("a:1", 0), ("a:1.", 0), ("a:.1", 0), ("a:0.0", 0), ("a:2.2", 0), ("a:02.1", 0), ("a:2.01", 0), ("a:2.00", 0),
                ("a:-2.1", 0), ("a:2.1.0", 0), ("a:2.1.k", 0), ("a:2.1:2.1", 0), ("a.k:+2.1", 0), ("abcdefghi", 0), ("a.abcdefghi", 0), ("a\n", 0), ("a\t> b", 0),
                ("* > a.k ~ b:1.1", 4), ("a > > b", 2), ("a > b > c > d > 5", 8)]
        for text, index in rows:
            self.assert_raises(BadText, index, read_selector, text)
        for thing in NO_TEXTS:
            self.assert_raises(BadText, 0, read_selector, thing)
        self.assertEqual(read_selector("a:0.1"), [(None, ("a", [], [], (0, 1)))])
        self.assertEqual(read_selector("*!k:3.0"), [(None, (None, [], ["k"], (3, 0)))])

    def test_each_sign_otherwise(self):
        """A text with one sign otherwise is either none, or the text of another selector."""
        text = "*.k > a!k:12.3 ~ b"
        for at in range(len(text) + 1):
            for sign in " .!:>*a0\n":
                for other in (text[:at] + sign + text[at:], text[:at] + sign + text[at + 1:], text[:at] + text[at + 1:]):
                    try:
                        found = read_selector(other)
                    except BadText as caught:
                        self.assertLessEqual(caught.index, len(other.split(" ")))
                    else:
                        self.assertTrue(is_selector(found))
                        self.assertEqual(write_selector(found), other)

    def test_values_both_ways(self):
        rows = {5: "5", -3: "-3", ("part", 50): "50p", ("times", 120): "120x", "as-parent": "as-parent", "start": "start", "none": "none", "a": "a",
                (("part", 3), -4): "(3p,-4)", (5, 6): "(5,6)", ("use", "--w"): "use(--w)", ("use", "--w", ("part", 1)): "use(--w,1p)",
                ("use", "--w", (("part", 1), 2)): "use(--w,(1p,2))", ("use", "--w", "auto"): "use(--w,auto)", 0: "0"}
        for value, text in rows.items():
            self.assertEqual(write_value(value), text)
            self.assertEqual(read_value(text), value)
        self.assertEqual(write_value(["use", "--w", [["part", 1], 2]]), "use(--w,(1p,2))")
        written = {}
        for word in VALUES:
            for value in VALUES[word] + EVERY + [("use", "--w", value) for value in VALUES[word]]:
                text = write_value(value)
                self.assertEqual(read_value(text), value)
                self.assertEqual(written.setdefault(text, value), value)

    def test_no_values(self):
        for thing in [None, True, 1.5, "", "inks", "A", (), ("part",), ("part", -1), ("part", True), ("times", 0), ("times", ("part", 1)), ("use",), ("use", "w"),
                      ("use", "--"), ("use", "--w", "start"), ("use", "--w", ("use", "--v")), ("use", "--w", "inks"), (5, (1, 2)), (-1, 5), ("auto", 5),
                      (5, 6, 7), [[]], {}, {"a": 1}, deep_list(2000), Tree(("a", [], [])), ("use", deep_list(2000))]:
            self.assert_keeps(BadValue, thing, write_value, thing)
        for text in ["", " ", "inks", "A", "05", "-0", "-05", "+5", "5 ", "p", "5pp", "-5p", "05p", "0x", "00x", "5y", "(5,6", "5,6)", "(5,6,7)", "(5, 6)", "(,6)",
                     "(5,)", "(-1,5)", "(auto,5)", "(5,6p)", "()", "use()", "use(w)", "use(--)", "use(--w", "use(--w,)", "use(--w,start)", "use(--w,use(--v))",
                     "use(--w,5,6)", "use(--w, 5)", "(5,67", "[5,6)", "use(--wx", "use(--w,55", "use(W,5)", "(5)", "Use(--w)", "use(--w)5", "as-parents", "--w", "5\n", "\u0663", "part", "9" * 5000 + "q"]:
            if text == "p":
                self.assertEqual(read_value(text), "p")
                continue
            self.assert_raises(BadText, 0, read_value, text)
        for thing in NO_TEXTS:
            self.assert_raises(BadText, 0, read_value, thing)

    def test_sheets_both_ways(self):
        self.assertEqual((write_sheet(Sheet([])), len(read_sheet(""))), ("", 0))
        dice = Dice(152)
        for _ in range(120):
            rules = some_rules(dice, dice.throw(6))
            sheet = Sheet(rules)
            text = write_sheet(sheet)
            back = read_sheet(text)
            self.assertTrue(back == sheet)
            self.assertEqual(write_sheet(back), text)
            self.assertEqual(write_sheet(Sheet(selectors_ascending(rules))), text)
            words = [line.split(" ")[1] for line in text.split("\n") if line.startswith("set --")]
            self.assertTrue(all(word.startswith("--") for word in words))

    def test_words_in_their_order(self):
        declarations = {"--b": 1, "ink": "r", "--a": 2, "show": "row", "width": 4}
        text = write_sheet(Sheet([(3, SELECTOR[:1], declarations, (2, 5))]))
        self.assertEqual(text, "rule 3 2..5 b\nset show row\nset width 4\nset ink r\nset --a 2\nset --b 1\n")
        self.assertEqual(list(PROPERTIES)[:3], ["show", "side", "width"])

    def test_texts_that_are_no_sheets(self):
        good = "rule 0 - a\nset width 5\n"
        rows = [("set width 5\n", 0), ("\n", 0), (good + "\n", 2), (good + "set width 6\n", 2), (good + "set side left\n", 2), (good + "set ink r", 2), (good[:-1], 1),
                (good + "set ink 5\n", 2), (good + "set --w start\n", 2), (good + "set --w  5\n", 2), (good + "set --w 5 \n", 2), (good + "set wide 5\n", 2),
                (good + "set --b 1\nset --a 1\n", 3), (good + "set --b 1\nset ink r\n", 3), (good + "set\n", 2), (good + "set ink\n", 2), (good + " set ink r\n", 2),
                ("rule 4 - a\n", 0), ("rule 00 - a\n", 0), ("rule -1 - a\n", 0), ("rule 0 a\n", 0), ("rule 0 -  a\n", 0), ("rule 0 - a > \n", 0), ("rule 0 - a.m.k\n", 0),
                ("rule 0 5 a\n", 0), ("rule 0 .. a\n", 0), ("rule 0 ..5 a\n", 0), ("rule 0 5..5 a\n", 0), ("rule 0 5..4 a\n", 0), ("rule 0 05.. a\n", 0),
                ("rule 0 5...6 a\n", 0), ("rule 0 -5.. a\n", 0), ("rule 0 - \n", 0), ("rule 0 -\n", 0), ("rule 0\n", 0), ("rule\n", 0), (good + "get ink r\n", 2), ("Rule 0 - a\n", 0), ("rule  0 - a\n", 0),
                (good + good + "rule 0 - a\nset x 5\nset y 5\n", 5), (good + "rule 1 - b", 2), (good + "set side left\nset", 2), ("x", 0), (good + "\r\n", 2)]
        for text, index in rows:
            self.assert_raises(BadText, index, read_sheet, text)
        for thing in NO_TEXTS:
            self.assert_raises(BadText, 0, read_sheet, thing)
        self.assertEqual(len(read_sheet(good + good)), 2)

    def test_lines_otherwise(self):
        dice = Dice(153)
        for _ in range(60):
            text = write_sheet(Sheet(some_rules(dice, 3)))
            lines = text.split("\n")[:-1]
            if len(lines) < 3:
                continue
            at, other = dice.throw(len(lines)), dice.throw(len(lines))
            turned = list(lines)
            turned[at], turned[other] = turned[other], turned[at]
            changed = "".join(line + "\n" for line in turned)
            try:
                self.assertEqual(write_sheet(read_sheet(changed)), changed)
            except BadText as caught:
                self.assertEqual(read_sheet("".join(line + "\n" for line in turned[:caught.index])).__class__, Sheet)

    def test_texts_at_the_limits(self):
        dice = Dice(154)
        rules = []
        while len(write_sheet(Sheet(rules))) < 5800:
            rules.append(some_rules(dice, 1)[0])
        text = write_sheet(Sheet(rules))
        self.assertTrue(read_sheet(text) == Sheet(rules))
        names = ["abcdefgh"[:1 + at % 8] for at in range(900)]
        selector = [(None, (names[0], [], [], None))] + [("below", (name, [], [], (GREAT, 0))) for name in names[1:200]]
        self.assertEqual(read_selector(write_selector(selector)), selector)
        self.assert_raises(BadText, 0, read_selector, "a:" + "9" * 5990)
        self.assertEqual(read_value("9" * 5000) % 10, 9)


if __name__ == "__main__":
    unittest.main()
