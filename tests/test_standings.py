import unittest

from naive import Asserts, Dice, deep_list, some_node
from pagefall.errors import BadGiven, BadWord
from pagefall.properties import PROPERTIES
from pagefall.sheets import Sheet
from pagefall.standings import can_have, can_hold, surely_has, worths_coming, worths_given
from pagefall.trees import Tree
from pagefall.worths import all_worths
from spinewise import LET, all_spots, first_place, large_sheet, some_sheet

B = [(None, ("b", [], [], None))]
ANY = [(None, (None, [], [], None))]
EXAMPLE = [(0, B, {"ink": "r", "fill": "w"}, None), (0, [(None, ("b", ["k"], [], None))], {"ink": "g"}, None),
           (1, [(None, ("c", [], [], None)), ("child", ("b", [], [], None))], {"fill": "as-parent"}, (0, 100))]
ROOT = ("root", "a", ())
FIRST = ("first", "a", ())
ZERO = (0, 1)
MOST = 4


def some_wishes(dice):
    return {word: dice.pick(LET[word] + ["x"] if word == "ink" else LET[word]) for word in LET if dice.throw(4) == 0}


class StandingsTest(unittest.TestCase, Asserts):
    def test_the_example(self):
        sheet = Sheet(EXAMPLE)
        plain, marked = [("root", "b", ())], [("root", "b", ("k",))]
        self.assertEqual(worths_coming(sheet, "ink"), [("x", ([ROOT], ZERO)), ("r", (plain, ZERO)), ("g", (marked, ZERO))])
        self.assertEqual(worths_given(sheet, {"fill": "w"}, "ink"), [("r", (plain, ZERO)), ("g", (marked, ZERO))])
        self.assertEqual(can_have(sheet, {"ink": "g", "fill": "w"}), (marked, ZERO))
        self.assertEqual(can_have(sheet, {"ink": "g", "fill": "none"}), (marked + [("first", "a", ())], ZERO))
        self.assertIsNone(can_have(sheet, {"ink": "x", "fill": "w"}))
        self.assertEqual(surely_has(sheet, {"ink": "r"}, {"fill": "w"}), (plain + [("first", "a", ())], ZERO))
        self.assertIsNone(surely_has(sheet, {"ink": "r", "fill": "w"}, {"size": 10}))
        self.assertEqual(surely_has(sheet, {"fill": "w"}, {"ink": "r"}), (marked, ZERO))
        self.assertEqual(can_hold(sheet, {"ink": "r"}, {"ink": "g"}), ((plain + [("first", "b", ("k",))], ZERO), 0))
        self.assertEqual(can_hold(sheet, {"fill": "w"}, {"ink": "x"}), None)

    def test_no_rules(self):
        sheet = Sheet([])
        self.assertEqual(worths_coming(sheet, "show"), [("block", ([ROOT], ZERO)), ("line", ([ROOT, FIRST], ZERO))])
        self.assertEqual(worths_coming(sheet, "most"), [("none", ([ROOT], ZERO))])
        self.assertEqual(can_have(sheet, {}), ([ROOT], ZERO))
        self.assertEqual(can_have(sheet, {"show": "line", "size": 10}), ([ROOT, FIRST], ZERO))
        self.assertIsNone(can_have(sheet, {"size": 11}))
        self.assertEqual(can_hold(sheet, {}, {}), (([ROOT, FIRST], ZERO), 0))
        self.assertEqual(can_hold(sheet, {"show": "line"}, {}), (([ROOT, FIRST, FIRST], ZERO), 1))
        self.assertIsNone(can_hold(sheet, {}, {"show": "block"}))
        self.assertEqual(surely_has(sheet, {}, {"show": "block"}), ([ROOT, FIRST], ZERO))
        self.assertIsNone(surely_has(sheet, {"grow": 5}, {"gap": 5}))

    def test_widths_are_the_least_ones(self):
        sheet = Sheet([(0, ANY, {"ink": "r"}, (50, 70)), (0, B, {"ink": "g"}, (70, None)), (0, ANY, {"fill": "w"}, (10, 60))])
        self.assertEqual(worths_coming(sheet, "ink"), [("x", ([ROOT], ZERO)), ("r", ([ROOT], (50, 1))), ("g", ([("root", "b", ())], (70, 1)))])
        self.assertEqual(can_have(sheet, {"fill": "w"}), ([ROOT], (10, 1)))
        self.assertEqual(can_have(sheet, {"fill": "none", "ink": "r"}), ([ROOT], (60, 1)))
        self.assertIsNone(can_have(sheet, {"fill": "w", "ink": "g"}))
        # The least spine goes ahead of the least width.
        sheet = Sheet([(0, [(None, (None, [], [], (0, 2)))], {"ink": "r"}, None), (0, ANY, {"ink": "r"}, (90, None))])
        self.assertEqual(can_have(sheet, {"ink": "r"}), ([ROOT], (90, 1)))

    def test_innermost_upper_one(self):
        child = [(None, ("c", [], [], None)), ("child", ("b", [], [], None)), ("child", ("b", [], [], None))]
        sheet = Sheet([(0, B, {"ink": "r"}, None), (0, child, {"ink": "g"}, None)])
        spine = [("root", "b", ()), ("first", "b", ()), ("first", "c", ())]
        self.assertEqual(can_hold(sheet, {"ink": "r"}, {"ink": "g"}), ((spine, ZERO), 1))
        self.assertEqual(can_hold(sheet, {"ink": "r", "show": "block"}, {"ink": "g"}), ((spine, ZERO), 0))
        # An elder sibling holds nothing, what is held is not held by itself.
        behind = [(None, ("c", [], [], None)), ("next", ("b", [], [], None))]
        sheet = Sheet([(0, ANY, {"ink": "start"}, None), (1, B, {"ink": "r"}, None), (0, behind, {"fill": "w"}, None)])
        spine = [("root", "b", ()), ("first", "b", ()), ("next", "c", ())]
        self.assertEqual(can_hold(sheet, {"ink": "r"}, {"fill": "w"}), ((spine, ZERO), 0))
        self.assertEqual(can_hold(sheet, {"ink": "r"}, {"ink": "r"}), ((spine[:2], ZERO), 0))

    def test_small_sheets_spine_by_spine(self):
        dice = Dice(11)
        for _ in range(12):
            sheet = some_sheet(dice)
            spots = list(all_spots(sheet, MOST))
            for word in ("ink", "grow", "show", "align"):
                self.check_coming(sheet, spots, {}, word)
                self.check_coming(sheet, spots, some_wishes(dice), word)
            for _ in range(6):
                wishes, others = some_wishes(dice), some_wishes(dice)
                self.check_place(can_have(sheet, wishes), first_place(spots, lambda spot: spot.has(wishes)))
                apart = first_place(spots, lambda spot: spot.has(wishes) and not spot.has(others))
                self.check_place(surely_has(sheet, wishes, others), apart)
                self.check_hold(sheet, spots, wishes, others)

    def check_place(self, place, expected):
        if place is not None and len(place[0]) > MOST:
            self.assertIsNone(expected)
        else:
            self.assertEqual(place, expected)

    def check_coming(self, sheet, spots, wishes, word):
        expected = {}
        for spot in spots:
            if spot.has(wishes):
                expected.setdefault(spot.worths[word], spot.place)
        told = worths_given(sheet, wishes, word)
        self.assertEqual([pair for pair in told if len(pair[1][0]) <= MOST], list(expected.items()))
        self.assertEqual(told, sorted(told, key=lambda pair: (len(pair[1][0]), pair[1])))
        self.assertEqual(told, worths_coming(sheet, word) if wishes == {} else told)
        if word not in wishes:
            for worth in LET[word]:
                place = dict(told).get(worth)
                self.assertEqual(can_have(sheet, {**wishes, word: worth}), place)

    def check_hold(self, sheet, spots, upper, lower):
        def uppers(spot):
            """The indexes of the upper ones above."""
            outer = [at - 1 for at, letter in enumerate(spot.place[0]) if letter[0] == "first"]
            return [at for at, worths in zip(outer, spot.rows) if all(worths[word] == upper[word] for word in upper)]

        held = [spot for spot in spots if spot.has(lower) and uppers(spot)]
        told = can_hold(sheet, upper, lower)
        self.check_place(told and told[0], held[0].place if held else None)
        if held and told:
            self.assertEqual(told[1], uppers(held[0])[-1])

    def test_in_trees_no_other_worth_comes(self):
        dice = Dice(23)
        for _ in range(12):
            sheet = some_sheet(dice)
            coming = {word: [worth for worth, _ in worths_coming(sheet, word)] for word in PROPERTIES}
            for _ in range(6):
                tree = Tree(some_node(dice, ["a", "b", "z"], ["k", "m"], 14))
                for worths in all_worths(sheet, tree, (dice.throw(900), 4)).values():
                    for word in PROPERTIES:
                        self.assertIn(worths[word], coming[word])

    def test_at_the_limits(self):
        sheet = large_sheet()
        for word, worths in LET.items():
            coming = dict(worths_coming(sheet, word))
            for worth in worths:
                self.assertEqual(can_have(sheet, {word: worth}), coming.get(worth))
        self.assertIsNone(can_have(sheet, {"grow": 10 ** 6}))
        self.assertIsNone(can_hold(sheet, {"ink": "q"}, {}))

    def test_lists_for_tuples_and_what_is_new(self):
        sheet = Sheet([(0, B, {"width": ["part", 50], "at": [["part", 3], -4]}, None)])
        wishes = {"width": ["part", 50], "at": [["part", 3], -4]}
        place = ([("root", "b", ())], ZERO)
        self.assertEqual(can_have(sheet, wishes), place)
        self.assertEqual(wishes, {"width": ["part", 50], "at": [["part", 3], -4]})
        self.assertEqual(worths_given(sheet, wishes, "at"), [((("part", 3), -4), place)])
        told = worths_coming(sheet, "ink")
        told[0][1][0].append("more")
        told.append("more")
        self.assertEqual(worths_coming(sheet, "ink"), [("x", ([ROOT], ZERO))])

    def test_wishes_that_are_none(self):
        sheet = Sheet(EXAMPLE)
        for thing in (None, [], (), "ink", [("ink", "r")], 5, deep_list(2000), sheet):
            self.assert_keeps(BadGiven, thing, can_have, sheet, thing)
            self.assert_keeps(BadGiven, thing, worths_given, sheet, thing, None)
            self.assert_keeps(BadGiven, thing, surely_has, sheet, thing, None)
            self.assert_keeps(BadGiven, thing, surely_has, sheet, {}, thing)
            self.assert_keeps(BadGiven, thing, can_hold, sheet, thing, None)
            self.assert_keeps(BadGiven, thing, can_hold, sheet, {}, thing)
        wrong = [("ink", "none"), ("size", ("times", 100)), ("size", 0), ("--p", 3), ("", 3), (None, 3), (7, 7), (("ink",), "r"), ("grow", True), ("show", "as-parent"), ("gap", "start"), ("ink", ("use", "--p")), ("ink", ("use", "--p", "r")), ("at", deep_list(900))]
        for word, value in wrong:
            self.assert_raises(BadGiven, word, can_have, sheet, {word: value})
            self.assert_raises(BadGiven, word, worths_given, sheet, {"fill": "w", word: value, "grow": -1}, "--p")
        self.assert_raises(BadGiven, "grow", surely_has, sheet, {"fill": "w", "grow": -1, "ink": "none"}, {"size": 0})
        self.assert_raises(BadGiven, "grow", can_hold, sheet, {"grow": -1}, {"size": 0})
        self.assert_raises(BadGiven, "size", can_hold, sheet, {"grow": 1}, {"size": 0})

    def test_words_that_are_none(self):
        for word in (None, "", "--p", "inks", ["ink"], 5, {}, Tree(("a", [], []))):
            self.assert_keeps(BadWord, word, worths_coming, Sheet(EXAMPLE), word)
            self.assert_keeps(BadWord, word, worths_given, Sheet(EXAMPLE), {"fill": "w"}, word)


if __name__ == "__main__":
    unittest.main()
