import unittest
from itertools import product

from naive import Asserts, Dice, deep_list, deep_node, given_lists, nodes_of, related_paths, some_node, some_selector
from pagefall.errors import BadSelector, NoElement
from pagefall.selectors import given_paths, is_given, is_matched, is_selector, matched_paths, weight_of
from pagefall.trees import Tree

ANY = (None, [], [], None)
EXAMPLE = [(None, ("b", [], [], None)), ("behind", ("a", [], ["k"], None)), ("child", (None, ["k"], [], None))]
EXAMPLE_TREE = ("r", ["k"], [("a", ["k"], []), "so", ("a", [], []), ("c", [], [("b", [], [])]), ("b", [], [])])
WRONG = [
    None, 1, True, "a", {}, [], (), [ANY], [(None,)], [("child", ANY)], [(None, ANY), (None, ANY)], [(None, ANY), ("up", ANY)],
    [(None, ANY), ["child"]], [(None, ANY, 1)], [(None, ("A", [], [], None))], [(None, ("a", [], None))],
    [(None, ("a", ["k", "k"], [], None))], [(None, ("a", [], ["k", "k"], None))], [(None, ("a", ["k"], ["k"], None))],
    [(None, ("a", "k", [], None))], [(None, ("a", [], None, None))], [(None, ("a", [1], [], None))],
    [(None, (1, [], [], None))], [(None, ("a", [], [], (0, 0)))], [(None, ("a", [], [], (2, 2)))],
    [(None, ("a", [], [], (2, -1)))], [(None, ("a", [], [], (-1, 0)))], [(None, ("a", [], [], (2,)))],
    [(None, ("a", [], [], (2, True)))], [(None, ("a", [], [], (True, 0)))], [(None, ("a", [], [], 2))],
    [(None, ("a", [], [], (0, -1)))], [(None, ("a", [], [], ()))], [(None, ("a", [], [], [None, 1]))],
    [(None, ANY), ([], ANY)], [(None, ANY), (["child"], ANY)], [([], ANY)], Tree(("a", [], [])), [(None, Tree(("a", [], [])))],
    [(None, ("a", [["k"]], [], None))], [(None, ("a", [Tree(("a", [], []))], [], None))], deep_list(3000),
    [1], [None], ["ab"], [{None: 1, (None, (), (), None): 2}], [(None, {None: 1, (): 2, ("k",): 3, (0, 1): 4})],
    [(None, ("a", deep_list(3000), [], None))], [(None, (deep_list(3000), [], [], None))],
]


class SelectorTest(unittest.TestCase, Asserts):
    def test_is_selector(self):
        right = [EXAMPLE, [(None, ANY)], ((None, ANY),), [[None, [None, (), (), None]]], [(None, ("a", ["m", "k"], ("b",), [0, 7]))],
                 [(None, (None, [], [], (1, 0)))], [(None, (None, [], [], (4, 3)))], [(None, (None, [], [], (0, 1)))],
                 [(None, ANY)] + [(relation, ANY) for relation in ("child", "below", "next", "behind")]]
        for thing in right:
            self.assertIs(is_selector(thing), True, thing)
        for thing in WRONG:
            self.assertIs(is_selector(thing), False)

    def test_bad_selectors(self):
        tree = Tree(EXAMPLE_TREE)
        for thing in WRONG:
            self.assert_very_one(thing, is_matched, tree, (4,), thing)
            self.assert_very_one(thing, matched_paths, tree, thing)
            self.assert_very_one(thing, weight_of, thing)
            self.assert_very_one(thing, given_paths, tree, (4,), thing)
            self.assert_very_one(thing, is_given, tree, (4,), thing, None)

    def assert_very_one(self, thing, work, *arguments):
        with self.assertRaises(BadSelector) as caught:
            work(*arguments)
        self.assertIs(caught.exception.thing, thing)

    def test_no_element_first(self):
        tree = Tree(EXAMPLE_TREE)
        for path in (None, 4, "4", (1,), (9,), (True,), (-1,), [1], deep_list(9), Tree(("a", [], []))):
            self.assert_keeps(NoElement, path, is_matched, tree, path, None)
            self.assert_keeps(NoElement, path, given_paths, tree, path, None)
            self.assert_keeps(NoElement, path, is_given, tree, path, None, None)

    def test_example(self):
        tree = Tree(EXAMPLE_TREE)
        self.assertEqual(matched_paths(tree, EXAMPLE), [(4,)])
        self.assertEqual(given_paths(tree, (4,), EXAMPLE), [(4,), (2,), ()])
        self.assertEqual(weight_of(EXAMPLE), (2, 2))
        self.assertEqual([path for path in tree.all_elements() if is_matched(tree, path, EXAMPLE)], [(4,)])

    def test_weight(self):
        self.assertEqual(weight_of([(None, ANY)]), (0, 0))
        self.assertEqual(weight_of([(None, ("a", ["k", "m"], ["n"], (2, 0))), ("next", ("b", [], [], (0, 1)))]), (5, 2))

    def test_simples(self):
        tree = Tree(("r", [], ["t", ("a", ["k"], []), ("b", ["k", "m"], []), "t", ("a", [], []), ("a", ["m"], []), ("b", [], [])]))
        cases = [
            (ANY, [(), (1,), (2,), (4,), (5,), (6,)]), (("a", [], [], None), [(1,), (4,), (5,)]),
            ((None, ["k"], [], None), [(1,), (2,)]), ((None, ["m", "k"], [], None), [(2,)]), ((None, ["k"], ["m"], None), [(1,)]),
            ((None, [], ["k", "m"], None), [(), (4,), (6,)]), ((None, [], [], (0, 1)), [(), (1,)]), ((None, [], [], (0, 3)), [(4,)]),
            ((None, [], [], (0, 6)), []), ((None, [], [], (2, 0)), [(2,), (5,)]), ((None, [], [], (2, 1)), [(), (1,), (4,), (6,)]),
            ((None, [], [], (1, 0)), [(), (1,), (2,), (4,), (5,), (6,)]), ((None, [], [], (4, 3)), [(4,)]),
            (("z", [], [], None), []), (("r", [], [], (0, 1)), [()]),
        ]
        for simple, paths in cases:
            self.assertEqual(matched_paths(tree, [(None, simple)]), paths, simple)

    def test_relations(self):
        tree = Tree(("a", [], [("a", [], [("b", [], []), "t", ("b", [], [])]), ("c", [], []), ("b", [], []), ("d", [], [("b", [], [])])]))
        b, cases = (None, ("b", [], [], None)), [
            ("child", "a", [(0, 0), (0, 2), (2,)]), ("below", "a", [(0, 0), (0, 2), (2,), (3, 0)]), ("next", "c", [(2,)]),
            ("next", "b", [(0, 2)]), ("behind", "a", [(2,)]), ("next", "a", []), ("child", "d", [(3, 0)]), ("below", "b", []),
        ]
        for relation, name, paths in cases:
            self.assertEqual(matched_paths(tree, [b, (relation, (name, [], [], None))]), paths, (relation, name))

    def test_search_has_to_go_on(self):
        tree = Tree(("a", ["k"], [("a", [], [("x", [], []), ("a", [], [("b", [], [])])])]))
        chain = [(None, ("b", [], [], None)), ("below", ("a", [], [], None)), ("child", ("a", ["k"], [], None))]
        self.assertEqual(given_paths(tree, (0, 1, 0), chain), [(0, 1, 0), (0,), ()])
        rows = Tree(("r", [], [("c", [], []), ("a", [], []), ("d", [], []), ("a", [], []), ("b", [], [])]))
        chain = [(None, ("b", [], [], None)), ("behind", ("a", [], [], None)), ("next", ("c", [], [], None))]
        self.assertEqual(given_paths(rows, (4,), chain), [(4,), (1,), (0,)])

    def test_against_plain_search(self):
        dice = Dice(1)
        for _ in range(120):
            root = some_node(dice, ["a", "b"], ["k", "m"], 1 + dice.throw(14))
            selector = some_selector(dice, ["a", "b"], ["k", "m"], 4)
            tree, nodes = Tree(root), dict(nodes_of(root))
            matched = []
            for path in tree.all_elements():
                lists = given_lists(nodes, path, selector)
                self.assertIs(is_matched(tree, path, selector), lists != [])
                matched.extend([path] if lists else [])
                self.assertIn(given_paths(tree, path, selector), lists or [None])
                for given in lists:
                    self.assertIs(is_given(tree, path, selector, given), True)
                    self.assertIs(is_given(tree, list(path), selector, tuple(list(at) for at in given)), True)
                for _ in range(6):
                    thing = [path] + [dice.pick(sorted(nodes)) for _ in selector[1:]]
                    self.assertIs(is_given(tree, path, selector, thing), thing in lists)
                if len(selector) < 3:
                    for thing in product(tree.all_elements(), repeat=len(selector)):
                        self.assertIs(is_given(tree, path, selector, thing), list(thing) in lists)
            self.assertEqual(matched_paths(tree, selector), matched)

    def test_each_relation_of_each_two(self):
        root = ("a", [], [("a", [], ["t", ("a", [], []), ("a", [], [])]), "t", ("a", [], [("a", [], [])]), ("a", [], [])])
        tree, nodes = Tree(root), dict(nodes_of(root))
        for relation in ("child", "below", "next", "behind"):
            selector = [(None, ANY), (relation, ANY)]
            for path in tree.all_elements():
                related = related_paths(nodes, path, relation)
                for other in tree.all_elements():
                    self.assertIs(is_given(tree, path, selector, [path, other]), other in related, (relation, path, other))

    def test_is_given_of_any_object(self):
        tree = Tree(EXAMPLE_TREE)
        self.assertIs(is_given(tree, (4,), EXAMPLE, [(4,), (2,), ()]), True)
        self.assertIs(is_given(tree, [4], EXAMPLE, ([4], [2], [])), True)
        for thing in (None, 1, "abc", {}, [], [(4,)], [(4,), (2,)], [(4,), (2,), (), ()], [(2,), (4,), ()], [(4,), (0,), ()],
                      [(4,), (1,), ()], [(4,), (2,), (0,)], [(4,), (2,), None], [4, 2, 0], [(4,), (True,), ()], [(3, 0), (2,), ()],
                      {0: (4,)}, [(4,), (9,), ()], deep_list(3000), [(4,), (2,), tree]):
            self.assertIs(is_given(tree, (4,), EXAMPLE, thing), False)

    def test_same_in_other_words(self):
        tree = Tree(("r", [], [("a", ["k", "m"], [("b", [], [])])]))
        one = [(None, ("b", [], [], None)), ("below", (None, ["k", "m"], [], None))]
        other = ((None, ["b", (), (), None]), ["below", [None, ("m", "k"), (), None]])
        self.assertEqual(given_paths(tree, (0, 0), one), given_paths(tree, [0, 0], other))
        self.assertEqual(matched_paths(tree, one), matched_paths(tree, other))

    def test_passed_stays_and_told_is_new(self):
        selector = [(None, ("b", [], ["z", "c"], [2, 1])), ("child", ("a", ["m", "k"], [], None))]
        tree = Tree(("a", ["k", "m"], [("b", [], [])]))
        matched_paths(tree, selector).clear()
        given_paths(tree, (0,), selector).clear()
        self.assertEqual(matched_paths(tree, selector), [(0,)])
        self.assertEqual(given_paths(tree, (0,), selector), [(0,), ()])
        self.assertEqual(selector, [(None, ("b", [], ["z", "c"], [2, 1])), ("child", ("a", ["m", "k"], [], None))])

    def test_by_names(self):
        tree = Tree(EXAMPLE_TREE)
        self.assertIs(is_selector(thing=EXAMPLE), True)
        self.assertIs(is_matched(tree=tree, path=(4,), selector=EXAMPLE), True)
        self.assertEqual(matched_paths(tree=tree, selector=EXAMPLE), [(4,)])
        self.assertEqual(weight_of(selector=EXAMPLE), (2, 2))
        given = given_paths(tree=tree, path=(4,), selector=EXAMPLE)
        self.assertIs(is_given(tree=tree, path=(4,), selector=EXAMPLE, thing=given), True)

    def test_limits(self):
        a = ("a", ["k"], [], None)
        chain = [(None, a)] + [("below", a)] * 4
        deep = Tree(deep_node(200))
        self.assertEqual(matched_paths(deep, chain), [(0,) * depth for depth in range(4, 200)])
        self.assertIs(is_given(deep, (0,) * 199, chain, given_paths(deep, (0,) * 199, chain)), True)
        broad = Tree(("r", [], [("a", ["k"], [])] * 199))
        rows = [(None, ("a", [], [], (4, 3)))] + [("behind", a)] * 4
        self.assertEqual(matched_paths(broad, rows), [(k,) for k in range(6, 199, 4)])
        self.assertEqual(matched_paths(broad, [(None, ("a", [], [], (10 ** 17, 199)))]), [(198,)])


if __name__ == "__main__":
    unittest.main()
