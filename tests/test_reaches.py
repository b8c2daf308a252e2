import unittest

from naive import Asserts, Dice, deep_list
from pagefall.errors import BadClass, BadWhere
from pagefall.reaches import reach_of, reach_shown
from pagefall.sheets import Sheet
from spinewise import MODES, all_spots, changes_at, large_sheet, some_sheet
from test_standings import ANY, EXAMPLE, ROOT, ZERO

MOST = 4


def steps(*rows):
    """A selector of steps that ask a relation, the classes they have and those they lack."""
    return [(relation, (None, has, lacks, None)) for relation, has, lacks in rows]


class ReachesTest(unittest.TestCase, Asserts):
    def shown(self, sheet, klass="k"):
        told = [reach_shown(sheet, klass, where) for where in MODES]
        self.assertEqual(reach_of(sheet, klass), [where for where, row in zip(MODES, told) if row is not None])
        return told

    def test_the_example(self):
        sheet = Sheet(EXAMPLE)
        self.assertEqual(reach_of(sheet, "k"), ["own", "inside"])
        spine = [("root", "b", ())]
        self.assertEqual(self.shown(sheet), [((spine, ZERO), 0, "ink"), ((spine + [("first", "a", ())], ZERO), 0, "ink"), None, None])
        self.assertEqual(self.shown(sheet, "zz"), [None] * 4)
        self.assertEqual(self.shown(Sheet([])), [None] * 4)

    def test_the_four(self):
        fill = {"fill": "w"}
        first, following = ("first", "a", ()), ("next", "a", ())
        self.assertEqual(self.shown(Sheet([(0, steps((None, ["k"], [])), fill, None)])), [(([ROOT], ZERO), 0, "fill"), None, None, None])
        self.assertEqual(self.shown(Sheet([(0, steps((None, [], []), ("below", ["k"], [])), fill, None)])), [None, (([ROOT, first], ZERO), 0, "fill"), None, None])
        self.assertEqual(self.shown(Sheet([(0, steps((None, [], []), ("behind", ["k"], [])), fill, None)])), [None, None, (([ROOT, first, following], ZERO), 1, "fill"), None])
        beside = steps((None, [], []), ("child", [], []), ("next", ["k"], []))
        self.assertEqual(self.shown(Sheet([(0, beside, fill, None)])), [None, None, None, (([ROOT, first, following, first], ZERO), 1, "fill")])

    def test_widths_indexes_and_words(self):
        rules = [(0, steps((None, ["k"], [])), {"fill": "w"}, (80, None)), (0, steps((None, ["k"], [])), {"gap": 3, "show": "start"}, (40, 80))]
        self.assertEqual(reach_shown(Sheet(rules), "k", "own"), (([ROOT], (40, 1)), 0, "gap"))
        # What only the parent's class changes by handing down is inside; own names alone are no worths.
        self.assertEqual(reach_of(Sheet([(0, steps((None, ["k"], [])), {"--p": 3}, None)]), "k"), [])
        rules = [(0, steps((None, ["k"], [])), {"--p": "r"}, None), (0, steps((None, ["m"], [])), {"ink": ("use", "--p")}, None)]
        self.assertEqual(self.shown(Sheet(rules))[:2], [(([("root", "a", ("m",))], ZERO), 0, "ink"), (([ROOT, ("first", "a", ("m",))], ZERO), 0, "ink")])
        # The least index that changes it, of several.
        two = steps((None, ["k"], []), ("below", ["m"], []), ("child", [], []))
        below = Sheet([(0, steps((None, [], []), ("below", ["k"], []), ("below", [], [])), {"fill": "w"}, None)])
        self.assertEqual(reach_shown(below, "k", "inside"), (([ROOT, ("first", "a", ()), ("first", "a", ())], ZERO), 1, "fill"))
        self.assertEqual(reach_shown(Sheet([(0, two, {"fill": "w"}, None)]), "m", "inside")[1], 1)

    def test_who_gets_it_stands_there(self):
        # The root would change its child, too, but not as the one that gets the class itself.
        child = steps((None, ["k"], []), ("child", [], []))
        sheet = Sheet([(0, child, {"gap": 3}, None), (0, steps((None, [], []), ("below", ["k"], [])), {"grow": 4}, None)])
        spine = [ROOT, ("first", "a", ())]
        self.assertEqual(self.shown(sheet)[:2], [((spine, ZERO), 1, "gap"), ((spine, ZERO), 0, "grow")])

    def test_what_lacks_it(self):
        lacking = Sheet([(0, steps((None, [], ["k"])), {"fill": "w"}, None)])
        self.assertEqual(self.shown(lacking), [(([ROOT], ZERO), 0, "fill"), None, None, None])
        # The child has the ink by itself, unless it has the class, too.
        spine = [ROOT, ("first", "a", ("k",))]
        ink = Sheet([(0, steps((None, [], ["k"])), {"ink": "r"}, None)])
        self.assertEqual(self.shown(ink)[1], ((spine, ZERO), 0, "ink"))

    def test_small_sheets_spine_by_spine(self):
        dice = Dice(3)
        for _ in range(7):
            sheet = some_sheet(dice, 150)
            told = dict(zip(MODES, self.shown(sheet)))
            found = {}
            for spot in all_spots(sheet, MOST):
                for mode, (index, word) in changes_at(sheet, spot, "k").items():
                    found.setdefault(mode, (spot.place, index, word))
            for mode in MODES:
                if told[mode] is not None and len(told[mode][0][0]) > MOST:
                    self.assertNotIn(mode, found)
                else:
                    self.assertEqual(told[mode], found.get(mode))

    def test_at_the_limits(self):
        sheet = large_sheet()
        for klass in ("k", "m"):
            for where, told in zip(MODES, self.shown(sheet, klass)):
                if told is not None:
                    (spine, width), index, word = told
                    self.assertNotIn(klass, spine[index][2])

    def test_errors_in_order(self):
        sheet = Sheet([(0, ANY, {"ink": "r"}, None)])
        for klass in (None, "", "K", "k2", "toolongword", 5, ["k"], ("k",), {}, sheet, deep_list(2000)):
            self.assert_keeps(BadClass, klass, reach_of, sheet, klass)
            self.assert_keeps(BadClass, klass, reach_shown, sheet, klass, None)
        for where in (None, "", "ownn", "above", 5, ["own"], ("own",), {}, sheet):
            self.assert_keeps(BadWhere, where, reach_shown, sheet, "k", where)


if __name__ == "__main__":
    unittest.main()
