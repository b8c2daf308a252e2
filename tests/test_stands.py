import unittest

from naive import Asserts, Dice, all_spines, deep_list, naive_stand, nodes_along, nodes_of, some_node, some_selector
from pagefall.errors import BadLetter, BadSelector, BadSpine, BadStand
from pagefall.spines import is_spine_matched, spine_of
from pagefall.stands import stand_behind, stand_of
from pagefall.trees import Tree

EXAMPLE = [(None, ("b", [], [], None)), ("behind", ("a", [], ["k"], None)), ("child", (None, ["k"], [], None))]
EXAMPLE_SPINE = [("root", "r", ("k",)), ("first", "a", ("k",)), ("next", "a", ()), ("next", "c", ()), ("next", "b", ())]
PLACES = [(None, ("a", [], [], (2, 1))), ("child", (None, [], [], None)), ("next", (None, [], [], (0, 2)))]
ROOT = ("root", "r", ())
HELD = ((0,), (1,), (1, 2), (), (1, 1))


class StandsTest(unittest.TestCase, Asserts):
    def test_example(self):
        self.assertEqual(stand_of(EXAMPLE_SPINE, EXAMPLE), ((0,), (2,), (2,), (1, 2), ()))
        self.assertEqual(stand_of(EXAMPLE_SPINE, [(None, (None, [], [], (2, 0)))])[4], (0,))
        self.assertEqual(stand_of(EXAMPLE_SPINE, [(None, (None, [], [], (2, 0)))])[0], (0,))
        self.assertEqual(stand_of(EXAMPLE_SPINE[:1], EXAMPLE), ((2,), None, (), (), ()))

    def test_letter_by_letter(self):
        told = [((2,), None, (), (), ()), ((2,), (2,), (2,), (), ()), ((1,), (2,), (2,), (2,), ()), ((), (2,), (2,), (1, 2), ()),
                ((0,), (2,), (2,), (1, 2), ())]
        held = None
        for letter, stand in zip(EXAMPLE_SPINE, told):
            held = stand_behind(EXAMPLE, held, letter)
            self.assertEqual(held, stand)
        self.assertEqual(stand_behind(EXAMPLE, told[4], ("first", "b", ())), ((), (0,), (0, 2), (), ()))

    def test_rests(self):
        selector = [(None, (None, [], [], (0, 1))), ("below", (None, [], [], (3, 0))), ("below", (None, [], [], (1, 0)))]
        self.assertEqual(stand_of([ROOT], selector)[4], (1, 1, 0))
        spine = [ROOT, ("first", "a", ())]
        rests = []
        for _ in range(4):
            rests.append(stand_of(spine, selector)[4])
            spine = spine + [("next", "a", ())]
        self.assertEqual(rests, [(1, 1, 0), (2, 2, 0), (2, 0, 0), (2, 1, 0)])
        self.assertEqual(stand_of(spine + [("first", "a", ())], selector)[4], (1, 1, 0))

    def test_against_the_definition(self):
        dice = Dice(6)
        for _ in range(60):
            root = some_node(dice, ["a", "b"], ["k", "m"], 14)
            selector = some_selector(dice, ["a", "b"], ["k", "m"], 4)
            tree, nodes = Tree(root), dict(nodes_of(root))
            for path in tree.all_elements():
                spine = spine_of(tree, path)
                stand = stand_of(spine, selector)
                self.assertEqual(stand, naive_stand(nodes, path, selector))
                self.assertIs(0 in stand[0], is_spine_matched(spine, selector))
                if len(spine) > 1:
                    self.assertEqual(stand_behind(selector, stand_of(spine[:-1], selector), spine[-1]), stand)

    def test_short_spines(self):
        dice = Dice(7)
        selectors = [some_selector(dice, ["a", "b"], ["k"], 5) for _ in range(4)]
        for spine in all_spines(["a", "b"], [(), ("k",)], 4):
            nodes, path = nodes_along(spine)
            for selector in selectors:
                self.assertEqual(stand_of(spine, selector), naive_stand(nodes, path, selector))

    def test_stands_that_no_spine_has(self):
        held = ((1,), None, (0, 1, 2), (2,), (0, 3))
        self.assertEqual(stand_behind(PLACES, held, ("first", "b", ())), ((), (1,), (0, 1, 2), (), (1, 1)))
        held = ((2,), (1,), (), (), (0, 1))
        self.assertEqual(stand_behind(PLACES, held, ("next", "a", ())), ((0, 1, 2), (1,), (), (2,), (1, 2)))
        self.assertEqual(stand_behind(PLACES, [[2], [1], [], [], [0, 1]], ["next", "a", []]), ((0, 1, 2), (1,), (), (2,), (1, 2)))

    def test_errors_of_stand_of(self):
        for thing in (None, [], [ROOT, ROOT], [("root", "r", ("m", "k"))], deep_list(2000)):
            with self.assertRaises(BadSpine) as caught:
                stand_of(thing, None)
            self.assertIs(caught.exception.thing, thing)
        self.assert_keeps(BadSelector, None, stand_of, [ROOT], None)

    def test_bad_stands(self):
        wrong = [
            1, "stand", {}, [], (), HELD[:4], HELD + ((),), ((0, 0), (1,), (), (), (1, 1)), ((1, 0), (1,), (), (), (1, 1)),
            ((3,), (1,), (), (), (1, 1)), ((-1,), (1,), (), (), (1, 1)), ((True,), (1,), (), (), (1, 1)), (None, (1,), (), (), (1, 1)),
            ((0,), (1,), None, (), (1, 1)), ((0,), (1,), (), None, (1, 1)), ((0,), 1, (), (), (1, 1)), ((0,), (1,), (), (), None),
            ((0,), (1,), (), (), (1,)), ((0,), (1,), (), (), (1, 1, 1)), ((0,), (1,), (), (), (2, 1)), ((0,), (1,), (), (), (-1, 1)),
            ((0,), (1,), (), (), (1, 0)), ((0,), (1,), (), (), (1, 4)), ((0,), (1,), (), (), (True, 1)), ((0,), (7,), (), (), (1, 1)),
            deep_list(2000), Tree(("a", [], [])), ((0,), (1,), (), (), ("1", 1)), ("0", (1,), (), (), (1, 1)),
        ]
        for thing in wrong:
            with self.assertRaises(BadStand) as caught:
                stand_behind(PLACES, thing, None)
            self.assertIs(caught.exception.thing, thing)
        for held in (HELD, ((0,), (1,), (), (), (0, 3)), ((0, 1, 2), (), (), (), (1, 3))):
            self.assertEqual(len(stand_behind(PLACES, held, ("next", "a", ()))), 5)

    def test_bad_letters(self):
        rooted = (HELD[0], None) + HELD[2:]
        cases = [(None, ("first", "a", ())), (None, ("next", "a", ())), (HELD, ROOT), (rooted, ROOT), (rooted, ("next", "a", ()))]
        for held in (None, HELD, rooted):
            for thing in (None, 1, "first", (), ("first", "a"), ("first", "A", ()), ("first", "a", ("m", "k")), ("last", "a", ()),
                          ("root", "a", ("k", "k")), (["root"], "a", ()), deep_list(2000)):
                cases.append((held, thing))
        for held, thing in cases:
            with self.assertRaises(BadLetter) as caught:
                stand_behind(PLACES, held, thing)
            self.assertIs(caught.exception.thing, thing)

    def test_order_of_errors(self):
        self.assert_keeps(BadSelector, None, stand_behind, None, 1, 1)
        self.assert_keeps(BadStand, 1, stand_behind, PLACES, 1, 1)
        self.assert_keeps(BadLetter, 1, stand_behind, PLACES, HELD, 1)

    def test_passed_stays(self):
        held, letter = [[0], [1], [1, 2], [], [1, 1]], ["next", "a", ["k"]]
        selector = [[None, ["a", ["m", "k"], [], [2, 1]]], ["child", [None, [], [], None]], ["next", [None, [], [], [0, 2]]]]
        stand_behind(selector, held, letter)
        self.assertEqual((held, letter), ([[0], [1], [1, 2], [], [1, 1]], ["next", "a", ["k"]]))
        self.assertEqual(selector[0], [None, ["a", ["m", "k"], [], [2, 1]]])

    def test_by_names(self):
        self.assertEqual(stand_of(spine=EXAMPLE_SPINE[:1], selector=EXAMPLE), ((2,), None, (), (), ()))
        self.assertEqual(stand_behind(selector=EXAMPLE, held=None, letter=EXAMPLE_SPINE[0]), ((2,), None, (), (), ()))

    def test_limits(self):
        a = ("a", [], [], (4, 3))
        selector = [(None, a)] + [(relation, a) for relation in ("behind", "below", "next", "child")]
        spine = [("root", "a", ())] + [("first" if k % 20 == 0 else "next", "a", ()) for k in range(199)]
        held = None
        for k, letter in enumerate(spine):
            held = stand_behind(selector, held, letter)
            self.assertEqual(held, stand_of(spine[:k + 1], selector))


if __name__ == "__main__":
    unittest.main()
