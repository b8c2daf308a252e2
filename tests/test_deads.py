import unittest

from naive import Asserts, Dice, deep_list, some_node
from pagefall.deads import alive_sheet, dead_ones, wins_ever
from pagefall.errors import BadNumber, BadWord
from pagefall.sheets import Sheet
from pagefall.trees import Tree
from pagefall.winners import winner_of
from pagefall.worths import all_worths
from spinewise import all_spots, first_place, large_sheet, some_sheet, wins
from test_standings import ANY, B, EXAMPLE, ROOT, ZERO

NEVER = [(None, (None, [], [], (0, 3))), ("child", (None, ["k"], [], None)), ("next", (None, [], [], (0, 1))), ("behind", (None, [], [], None))]


class DeadsTest(unittest.TestCase, Asserts):
    def test_the_example(self):
        self.assertEqual(dead_ones(Sheet(EXAMPLE)), [])
        sheet = Sheet(EXAMPLE + [(1, ANY, {"ink": "y"}, None)])
        self.assertEqual(dead_ones(sheet), [(0, "ink"), (1, "ink")])
        rules = sheet.all_rules()
        self.assertEqual(alive_sheet(sheet), Sheet([(0, B, {"fill": "w"}, None), rules[2], rules[3]]))
        self.assertEqual(wins_ever(sheet, 3, "ink"), ([ROOT], ZERO))
        self.assertIsNone(wins_ever(sheet, 0, "ink"))
        self.assertEqual(wins_ever(sheet, 0, "fill"), ([("root", "b", ())], ZERO))
        self.assertEqual(wins_ever(sheet, 2, "fill"), ([("root", "b", ()), ("first", "c", ())], ZERO))

    def test_places(self):
        sheet = Sheet([(0, ANY, {"ink": "r", "--p": 1}, (30, 60)), (0, ANY, {"ink": "g"}, (20, 50)), (0, B, {"ink": "b"}, (40, None))])
        self.assertEqual(wins_ever(sheet, 0, "ink"), ([ROOT], (50, 1)))
        self.assertEqual(wins_ever(sheet, 0, "--p"), ([ROOT], (30, 1)))
        self.assertEqual(wins_ever(sheet, 1, "ink"), ([ROOT], (20, 1)))
        self.assertEqual(wins_ever(sheet, 2, "ink"), ([("root", "b", ())], (40, 1)))

    def test_what_is_dead(self):
        # Who never matches; who is never on where it would win; in the order of rules, then of words.
        sheet = Sheet([(3, NEVER, {"--p": 1, "ink": "r", "show": "row", "--a": 2}, None), (0, ANY, {"fill": "w"}, (10, 20)), (1, B, {}, None), (0, ANY, {"fill": "v"}, (0, 30))])
        self.assertEqual(dead_ones(sheet), [(0, "show"), (0, "ink"), (0, "--a"), (0, "--p"), (1, "fill")])
        self.assertEqual(alive_sheet(sheet), Sheet([(0, ANY, {"fill": "v"}, (0, 30))]))
        self.assertEqual(alive_sheet(Sheet([])), Sheet([]))
        self.assertEqual(dead_ones(Sheet([])), [])
        # A narrower one, and the same told again.
        twice = Sheet([(0, B, {"ink": "r"}, (5, 9)), (0, B, {"ink": "r"}, (5, 9)), (0, [(None, ("b", ["k"], [], None))], {"ink": "g"}, (6, 7))])
        self.assertEqual(dead_ones(twice), [(0, "ink")])
        self.assertEqual(dead_ones(twice.with_rule((1, B, {"ink": "b"}, (6, 7)), 0)), [(1, "ink"), (3, "ink")])

    def test_small_sheets_spine_by_spine(self):
        dice = Dice(5)
        for _ in range(8):
            sheet = some_sheet(dice)
            spots = list(all_spots(sheet, 3))
            dead = dead_ones(sheet)
            for number, rule in enumerate(sheet.all_rules()):
                for word in rule[2]:
                    place = wins_ever(sheet, number, word)
                    self.assertEqual(place is None, (number, word) in dead)
                    expected = first_place(spots, lambda spot: wins(sheet, spot, number, word))
                    if place is None or len(place[0]) <= 3:
                        self.assertEqual(place, expected)
                    else:
                        self.assertIsNone(expected)
            self.check_alive(sheet, dice)

    def check_alive(self, sheet, dice):
        dead = dead_ones(sheet)
        alive = alive_sheet(sheet)
        self.assertEqual(dead_ones(alive), [])
        self.assertTrue(all(rule[2] for rule in alive.all_rules()))
        self.assertEqual(sum(len(rule[2]) for rule in sheet.all_rules()), len(dead) + sum(len(rule[2]) for rule in alive.all_rules()))
        for _ in range(4):
            tree = Tree(some_node(dice, ["a", "b"], ["k"], 10))
            width = (dice.throw(900), 4)
            self.assertEqual(all_worths(sheet, tree, width), all_worths(alive, tree, width))
            for number, word in dead:
                for path in tree.all_elements():
                    self.assertNotEqual(winner_of(sheet, tree, path, word, width), number)

    def test_at_the_limits(self):
        sheet = large_sheet()
        dead = dead_ones(sheet)
        for number, rule in enumerate(sheet.all_rules()):
            for word in rule[2]:
                self.assertEqual(wins_ever(sheet, number, word) is None, (number, word) in dead)
        self.assertEqual(dead_ones(alive_sheet(sheet)), [])

    def test_errors_in_order(self):
        sheet = Sheet(EXAMPLE)
        for number in (None, -1, 3, True, "0", [0], (0, 1), sheet):
            self.assert_keeps(BadNumber, number, wins_ever, sheet, number, None)
        for word in (None, "", "inks", "align", "--p", ["ink"], 5, {}, sheet, deep_list(2000)):
            self.assert_keeps(BadWord, word, wins_ever, sheet, 0, word)
        self.assert_raises(BadNumber, 0, wins_ever, Sheet([]), 0, "ink")
        rules = sheet.all_rules()
        alive_sheet(sheet)
        self.assertEqual(sheet.all_rules(), rules)


if __name__ == "__main__":
    unittest.main()
