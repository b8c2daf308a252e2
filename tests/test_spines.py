import unittest

from naive import Asserts, Dice, all_spines, deep_list, deep_node, is_spine_naively_matched, nodes_along, some_node, some_selector
from pagefall.errors import BadSelector, BadSpine, NoElement
from pagefall.selectors import is_matched
from pagefall.spines import is_spine, is_spine_matched, path_along, spine_of, tree_along
from pagefall.trees import Tree

ROOT = ("root", "r", ("k",))
EXAMPLE = [(None, ("b", [], [], None)), ("behind", ("a", [], ["k"], None)), ("child", (None, ["k"], [], None))]
EXAMPLE_TREE = ("r", ["k"], [("a", ["k"], []), "so", ("a", [], []), ("c", [], [("b", [], [])]), ("b", [], [])])
EXAMPLE_SPINE = [("root", "r", ("k",)), ("first", "a", ("k",)), ("next", "a", ()), ("next", "c", ()), ("next", "b", ())]
WRONG = [
    None, 1, "root", {}, [], (), [ROOT, ROOT], [ROOT, ("next", "a", ())], [("first", "a", ())], [ROOT, ("first", "a", ()), ROOT],
    [("root", "r")], [("root", "R", ())], [("root", "r", None)], [("root", "r", "k")], [("root", "r", ("m", "k"))],
    [("root", "r", ("k", "k"))], [("root", "r", ("K",))], [("root", None, ())], [(None, "r", ())], [ROOT, ("last", "a", ())], [ROOT, ("first", "a", ()), ("last", "a", ())],
    [ROOT, None], ROOT, [["root"], "r", ()], [(["root"], "r", ())], [({}, "r", ())], [ROOT, ("first", "a", [1])], deep_list(3000),
    [("root", "r", deep_list(3000))], Tree(("a", [], [])), [Tree(("a", [], []))], [("root", "r", (True,))],
]


class SpinesTest(unittest.TestCase, Asserts):
    def test_example(self):
        tree = Tree(EXAMPLE_TREE)
        self.assertEqual(spine_of(tree, (4,)), EXAMPLE_SPINE)
        self.assertEqual(spine_of(tree, [3, 0]), EXAMPLE_SPINE[:4] + [("first", "b", ())])
        self.assertEqual(spine_of(tree, ()), EXAMPLE_SPINE[:1])
        self.assertEqual(path_along(EXAMPLE_SPINE), (3,))
        along = ("r", ("k",), (("a", ("k",), ()), ("a", (), ()), ("c", (), ()), ("b", (), ())))
        self.assertEqual(tree_along(EXAMPLE_SPINE).root_node(), along)
        self.assertIs(is_spine_matched(EXAMPLE_SPINE, EXAMPLE), True)
        self.assertIs(is_spine_matched(EXAMPLE_SPINE[:4], EXAMPLE), False)

    def test_no_element(self):
        tree = Tree(EXAMPLE_TREE)
        for path in (None, 4, (1,), (5,), (True,), [1], "4", deep_list(4)):
            self.assert_keeps(NoElement, path, spine_of, tree, path)

    def test_is_spine(self):
        for spine in (EXAMPLE_SPINE, [ROOT], (["root", "r", ["k", "m"]],), [ROOT, ("first", "a", ()), ("first", "a", ()), ("next", "b", ())]):
            self.assertIs(is_spine(spine), True)
        for thing in WRONG:
            self.assertIs(is_spine(thing), False)

    def test_bad_spines(self):
        for thing in WRONG:
            for work, more in ((tree_along, ()), (path_along, ()), (is_spine_matched, (None,))):
                with self.assertRaises(BadSpine) as caught:
                    work(thing, *more)
                self.assertIs(caught.exception.thing, thing)
        for thing in (None, [], [(None, ("a", [], []))]):
            self.assert_keeps(BadSelector, thing, is_spine_matched, EXAMPLE_SPINE, thing)

    def test_each_spine_is_that_of_the_last_one_in_its_tree(self):
        many = 0
        for spine in all_spines(["a", "b"], [(), ("k",)], 4):
            nodes, path = nodes_along(spine)
            tree = tree_along(spine)
            self.assertEqual(path_along(spine), path)
            self.assertEqual(spine_of(tree, path), spine)
            self.assertEqual(tree.all_paths(), sorted(nodes))
            self.assertIs(is_spine(spine), True)
            many += 1
        self.assertEqual(many, 4 + 16 + 2 * 64 + 4 * 256)

    def test_matched_exactly_if_its_spine_is(self):
        dice = Dice(2)
        for _ in range(80):
            tree = Tree(some_node(dice, ["a", "b"], ["k", "m"], 14))
            selector = some_selector(dice, ["a", "b"], ["k", "m"], 4)
            for path in tree.all_elements():
                spine = spine_of(tree, path)
                self.assertIs(is_spine_matched(spine, selector), is_matched(tree, path, selector))
                self.assertIs(is_spine_matched(spine, selector), is_spine_naively_matched(spine, selector))

    def test_what_lies_behind_or_within_changes_nothing(self):
        tree = Tree(EXAMPLE_TREE)
        for other in (tree.with_text((1,), "else"), tree.with_node((4, 0), ("z", [], [])), tree.with_node((5,), ("z", [], [])),
                      tree.with_node((0,), "text").without_node((0,)), tree.with_class((3, 0), "z")):
            self.assertEqual(spine_of(other, (4,)), EXAMPLE_SPINE)

    def test_passed_stays_and_told_is_new(self):
        spine = [["root", "r", ["k"]], ["first", "a", []]]
        tree_along(spine)
        path_along(spine)
        is_spine_matched(spine, EXAMPLE)
        self.assertEqual(spine, [["root", "r", ["k"]], ["first", "a", []]])
        tree = Tree(EXAMPLE_TREE)
        spine_of(tree, ()).clear()
        self.assertEqual(spine_of(tree, ()), [ROOT])

    def test_by_names(self):
        tree = Tree(EXAMPLE_TREE)
        self.assertEqual(spine_of(tree=tree, path=(4,)), EXAMPLE_SPINE)
        self.assertIs(is_spine(thing=EXAMPLE_SPINE), True)
        self.assertEqual(len(tree_along(spine=EXAMPLE_SPINE)), 5)
        self.assertEqual(path_along(spine=EXAMPLE_SPINE), (3,))
        self.assertIs(is_spine_matched(spine=EXAMPLE_SPINE, selector=EXAMPLE), True)

    def test_limits(self):
        deep = Tree(deep_node(200))
        spine = spine_of(deep, (0,) * 199)
        self.assertEqual(spine, [("root", "a", ("k",))] + [("first", "a", ("k",))] * 199)
        self.assertEqual((tree_along(spine), path_along(spine)), (deep, (0,) * 199))
        broad = [ROOT, ("first", "a", ())] + [("next", "a", ())] * 198
        self.assertEqual((len(tree_along(broad)), path_along(broad)), (200, (198,)))
        self.assertEqual(spine_of(tree_along(broad), (198,)), broad)


if __name__ == "__main__":
    unittest.main()
