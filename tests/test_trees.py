import unittest

from naive import Asserts, Dice, deep_list, deep_node, elder_path, element_at, nodes_of, some_node
from pagefall.errors import BadClass, BadNode, BadPath, NoElement, NoNode, NoPlace, NoText
from pagefall.trees import Tree, behind_put, behind_take, is_node

ROOT = ("r", ["k", "b"], ["one", ("a", [], []), "two", "three", ("a", ["z"], [("b", (), ["in"])])])
TOLD = ("r", ("b", "k"), ("one", ("a", (), ()), "two", "three", ("a", ("z",), (("b", (), ("in",)),))))
NO_PATHS = [None, 0, "0", True, (True,), (-1,), ("0",), (0.5,), {0: 1}, [[]], (None,), Tree(("a", [], []))]


class NodesTest(unittest.TestCase):
    def test_texts(self):
        for text in ("a", "az09-. ", " ", "-", "x" * 400):
            self.assertIs(is_node(text), True, text)
        for text in ("", "A", "a\n", "<", "a_b", "\u00e9", "a\tb", "a,b"):
            self.assertIs(is_node(text), False, text)

    def test_elements(self):
        for node in (("a", [], []), ["abcdefgh", ("k", "a"), ["t", ["b", [], ()]]], ("a", (), ("x", "y"))):
            self.assertIs(is_node(node), True, node)
        wrong = [
            None, 1, True, [], (), {}, ("a", []), ("a", [], [], []), ("", [], []), ("abcdefghi", [], []),
            ("A", [], []), ("a1", [], []), ("\u00e9", [], []), ("a", ["\u00e9"], []), (None, [], []), ("a", None, []), ("a", "k", []), ("a", ["k", "k"], []),
            ("a", ["K"], []), ("a", [["k"]], []), ("a", {}, []), ("a", [], None), ("a", [], "text"), ("a", [], {}),
            ("a", [], [""]), ("a", [], [("b", [], [None])]), Tree(("a", [], [])), ("a", [], [Tree(("a", [], []))]),
        ]
        for node in wrong:
            self.assertIs(is_node(node), False, node)

    def test_deep_things(self):
        self.assertIs(is_node(deep_node(20000)), True)
        self.assertIs(is_node(deep_list(20000)), False)
        self.assertIs(is_node(("a", [], [deep_list(20000)])), False)


class TreeTest(unittest.TestCase, Asserts):
    def test_first_bad_node_in_tree_order(self):
        cases = [
            ("text", ()), ("", ()), (None, ()), (("a", [], [1]), (0,)), (("a", ["k", "k"], [1]), ()),
            (("a", [], ["x", ("b", [], ["y", ""]), 3]), (1, 1)), (("a", [], ["x", ("b", [], [True]), 3]), (1, 0)),
            (("a", [], [("b", [], [("c", ["C"], [None])]), 5]), (0, 0)), (("a", [], ["x", "", ("b", [], [0])]), (1,)),
        ]
        for root, path in cases:
            self.assert_raises(BadNode, path, Tree, root)
        self.assert_raises(BadNode, (0,) * 199 + (1,), Tree, self.deep_with_wrong(200))

    def deep_with_wrong(self, many):
        node = ("a", [], ["x", 7, None])
        for _ in range(many - 1):
            node = ["a", [], [node, 8]]
        return node

    def test_deep_refused(self):
        self.assert_raises(BadNode, (0,) * 2999 + (1,), Tree, self.deep_with_wrong(3000))

    def test_what_it_tells(self):
        tree = Tree(ROOT)
        self.assertEqual(tree.root_node(), TOLD)
        self.assertEqual(tree.node_at(()), TOLD)
        self.assertEqual(tree.node_at((4,)), TOLD[2][4])
        self.assertEqual(tree.node_at([4, 0, 0]), "in")
        self.assertEqual(tree.all_paths(), [(), (0,), (1,), (2,), (3,), (4,), (4, 0), (4, 0, 0)])
        self.assertEqual(tree.all_elements(), [(), (1,), (4,), (4, 0)])
        self.assertEqual(len(tree), 8)
        elders = [tree.elder_of(path) for path in tree.all_paths()]
        self.assertEqual(elders, [None, None, None, (1,), (1,), (1,), None, None])

    def test_no_node(self):
        tree = Tree(ROOT)
        for path in NO_PATHS + [(5,), (0, 0), (4, 1), (4, 0, 0, 0), [9]]:
            self.assert_keeps(NoNode, path, tree.node_at, path)
            self.assert_keeps(NoNode, path, tree.elder_of, path)
            self.assert_keeps(NoNode, path, tree.without_node, path)
            self.assert_keeps(NoNode, path, tree.with_text, path, None)
            self.assert_keeps(NoElement, path, tree.with_class, path, None)
            self.assert_keeps(NoElement, path, tree.without_class, path, None)

    def test_equal(self):
        self.assertTrue(Tree(ROOT) == Tree(TOLD))
        self.assertFalse(Tree(ROOT) != Tree(TOLD))
        others = [("a", [], []), ("a", ["k"], []), ("a", [], ["x"]), ("a", [], ["x", "x"]), ("a", [], ["xx"]),
                  ("a", [], [("b", [], ["x"])]), ("a", [], [("b", [], []), "x"]), ("b", [], [])]
        trees = [Tree(root) for root in others]
        for k, tree in enumerate(trees):
            self.assertEqual([tree == other for other in trees], [k == j for j in range(len(trees))])
            for thing in (None, others[k], tree.root_node(), 1, "x", [tree]):
                self.assertFalse(tree == thing)

    def test_against_nested_walk(self):
        dice = Dice(5)
        for _ in range(40):
            root = some_node(dice, ["a", "b"], ["k", "m"], 1 + dice.throw(30))
            tree = Tree(root)
            nodes = dict(nodes_of(root))
            self.assertEqual(tree.all_paths(), sorted(nodes))
            self.assertEqual(tree.all_elements(), [path for path in sorted(nodes) if element_at(nodes, path)])
            for path in nodes:
                self.assertEqual(tree.node_at(path), nodes[path])
                self.assertEqual(tree.elder_of(path), elder_path(nodes, path))

    def test_passed_and_told_stay_apart(self):
        classes, inner, children = ["k"], ["b", [], []], ["x"]
        children.append(inner)
        root = ["a", classes, children]
        tree = Tree(root)
        classes.append("m")
        inner[2].append("y")
        children.append("z")
        root[0] = "q"
        self.assertEqual(tree.root_node(), ("a", ("k",), ("x", ("b", (), ()))))
        tree.all_paths().clear()
        tree.all_elements().append(1)
        self.assertEqual((len(tree.all_paths()), len(tree.all_elements())), (3, 2))


class EditsTest(unittest.TestCase, Asserts):
    def setUp(self):
        self.tree = Tree(("r", [], ["x", ("a", ["k"], ["y"]), "z"]))

    def tearDown(self):
        self.assertEqual(self.tree, Tree(("r", [], ["x", ("a", ["k"], ["y"]), "z"])))

    def test_with_node(self):
        tree = self.tree
        self.assertEqual(tree.with_node((0,), "w").root_node()[2], ("w", "x", ("a", ("k",), ("y",)), "z"))
        self.assertEqual(tree.with_node([3], ["b", [], []]).root_node()[2][3], ("b", (), ()))
        self.assertEqual(tree.with_node((1, 1), ("b", ["z", "c"], [])).node_at((1, 1)), ("b", ("c", "z"), ()))
        self.assertEqual(len(tree.with_node((2,), ("b", [], ["t"]))), 7)

    def test_no_place(self):
        for path in NO_PATHS + [(), (4,), (0, 0), (1, 2), (1, 0, 0), (2, 0), (5, 0)]:
            self.assert_keeps(NoPlace, path, self.tree.with_node, path, None)

    def test_bad_nodes(self):
        self.assert_raises(BadNode, (3,), self.tree.with_node, (3,), "")
        self.assert_raises(BadNode, (1, 1), self.tree.with_node, (1, 1), None)
        self.assert_raises(BadNode, (1, 0, 1, 0), self.tree.with_node, (1, 0), ("b", [], ["x", ("c", [], [2]), 3]))

    def test_without_node(self):
        self.assertEqual(self.tree.without_node((1,)).root_node(), ("r", (), ("x", "z")))
        self.assertEqual(self.tree.without_node([1, 0]).node_at((1,)), ("a", ("k",), ()))
        self.assert_keeps(NoPlace, (), self.tree.without_node, ())
        self.assert_raises(NoPlace, [], self.tree.without_node, [])

    def test_with_text(self):
        self.assertEqual(self.tree.with_text((0,), "new").root_node()[2][0], "new")
        self.assertEqual(self.tree.with_text((1, 0), "in").node_at((1,)), ("a", ("k",), ("in",)))
        for path in ((), (1,)):
            self.assert_keeps(NoText, path, self.tree.with_text, path, None)
        for text in ("", "A", None, 1, ["x"], ("a", [], [])):
            self.assert_keeps(BadNode, (1, 0), self.tree.with_text, (1, 0), text)

    def test_classes(self):
        self.assertEqual(self.tree.with_class((1,), "b").node_at((1,)), ("a", ("b", "k"), ("y",)))
        self.assertEqual(self.tree.with_class((), "b").node_at(())[1], ("b",))
        self.assertEqual(self.tree.with_class([1], "b"), self.tree.with_class((1,), "b"))
        self.assertEqual(self.tree.with_class((1,), "k"), self.tree)
        self.assertEqual(self.tree.without_class([1], "k").node_at((1,)), ("a", (), ("y",)))
        self.assertEqual(self.tree.without_class((), "k"), self.tree)
        for klass in ("", "K", "abcdefghi", None, 1, ["k"], ("k",)):
            self.assert_keeps(BadClass, klass, self.tree.with_class, (1,), klass)
            self.assert_keeps(BadClass, klass, self.tree.without_class, (1,), klass)
        self.assert_keeps(NoElement, (0,), self.tree.with_class, (0,), "k")
        self.assert_keeps(NoElement, (0,), self.tree.without_class, (0,), "k")

    def test_joined_texts(self):
        tree = Tree(("r", [], ["x", "y", ("a", [], ["p", "q", "r", ("b", [], []), "s"]), "z", " "]))
        joined = ("r", (), ("xy", ("a", (), ("pqr", ("b", (), ()), "s")), "z "))
        self.assertEqual(tree.joined_texts().root_node(), joined)
        self.assertEqual(tree.joined_texts().joined_texts(), Tree(joined))
        self.assertEqual(len(tree), 11)

    def test_by_names(self):
        self.assertEqual(Tree(root=ROOT).with_node(path=(0,), node="w").node_at(path=(0,)), "w")
        self.assertEqual(self.tree.with_text(path=(0,), text="w").without_node(path=(0,)), self.tree.without_node((0,)))
        self.assertEqual(self.tree.with_class(path=(), klass="w").without_class(path=(), klass="w"), self.tree)
        self.assertEqual(self.tree.elder_of(path=(2,)), (1,))
        self.assertIs(is_node(thing="x"), True)
        self.assertEqual((behind_put(path=(1,), at=(0,)), behind_take(path=(1,), at=(0,))), ((2,), (0,)))


class BehindTest(unittest.TestCase, Asserts):
    def test_put(self):
        cases = [((), (0,), ()), ((0,), (0,), (1,)), ((0,), (1,), (0,)), ((2, 5), (1,), (3, 5)), ((2, 5), (2, 5), (2, 6)),
                 ((2, 5), (2, 6), (2, 5)), ((2, 5), (2, 4, 0), (2, 5)), ((2, 5, 1), (2, 4), (2, 6, 1)),
                 ((1, 5), (2, 0), (1, 5)), ((1,), (1, 0), (1,)), ((3, 1), (), (3, 1)), ((), (), ())]
        for path, at, behind in cases:
            self.assertEqual(behind_put(path, at), behind)
            self.assertEqual(behind_put(list(path), list(at)), behind)

    def test_take(self):
        cases = [((), (0,), ()), ((0,), (0,), None), ((0, 3), (0,), None), ((1, 3), (0,), (0, 3)), ((1, 3), (1, 3), None),
                 ((1, 3), (1, 2), (1, 2)), ((1, 3), (1, 4), (1, 3)), ((1, 3), (2,), (1, 3)), ((1, 3), (1, 3, 0), (1, 3)),
                 ((4,), (), None), ((), (), None), ((2, 0), (1, 0), (2, 0))]
        for path, at, behind in cases:
            self.assertEqual(behind_take(path, at), behind)
            self.assertEqual(behind_take(list(path), list(at)), behind)

    def test_bad_paths(self):
        for work in (behind_put, behind_take):
            for path in NO_PATHS:
                self.assert_keeps(BadPath, path, work, path, (0,))
                self.assert_keeps(BadPath, path, work, (0,), path)
                self.assert_keeps(BadPath, path, work, path, "wrong")

    def test_nodes_stay_the_same(self):
        dice = Dice(8)
        for _ in range(30):
            tree = Tree(some_node(dice, ["a", "b"], ["k"], 12))
            for above in tree.all_elements():
                at = above + (dice.throw(len(tree.node_at(above)[2]) + 1),)
                put = tree.with_node(at, ("new", [], ["t"]))
                for path in tree.all_paths():
                    node = put.node_at(behind_put(path, at))
                    self.assertEqual(put.without_node(at), tree)
                    self.assertEqual(node[:2] if above[:len(path)] == path else node,
                                     tree.node_at(path)[:2] if above[:len(path)] == path else tree.node_at(path))
            for at in tree.all_paths()[1:]:
                taken = tree.without_node(at)
                kept = [behind_take(path, at) for path in tree.all_paths()]
                self.assertEqual([path for path in kept if path is not None], taken.all_paths())
                self.assertEqual(kept.count(None), len(tree) - len(taken))


class LimitsTest(unittest.TestCase, Asserts):
    def test_deep_tree(self):
        tree = Tree(deep_node(200))
        self.assertEqual((len(tree), tree.all_paths()[-1]), (200, (0,) * 199))
        self.assertTrue(tree == Tree(deep_node(200)))
        self.assertFalse(tree == tree.with_class((0,) * 199, "z"))
        self.assertEqual(tree.without_node((0,) * 100), Tree(deep_node(100)))
        self.assertEqual(tree.with_node((0,) * 200, "t").node_at((0,) * 200), "t")
        self.assertEqual(tree.joined_texts(), tree)
        self.assert_raises(BadNode, (0,) * 200, tree.with_node, (0,) * 200, deep_list(3000))

    def test_beyond_what_python_compares(self):
        tree = Tree(deep_node(900))
        self.assertTrue(tree == Tree(deep_node(900)))
        self.assertEqual(len(tree), 900)

    def test_broad_tree(self):
        tree = Tree(("r", [], [("a", [], []) if k % 2 else "x" * 400 for k in range(199)]))
        self.assertEqual(tree.elder_of((198,)), (197,))
        self.assertEqual(tree.with_node((199,), "x").all_paths()[-1], (199,))


if __name__ == "__main__":
    unittest.main()
