import unittest

from naive import Asserts, deep_list, deep_node
from pagefall.errors import BadNest
from pagefall.nests import is_nest, is_of_nest
from pagefall.trees import Tree

NEST = (["a", "r"], {"a": ["b", "a"], "b": []})
WRONG = [
    1, True, "a", [], (), {}, ([], {}), (["a"],), (["a"], {}, {}), (["a", "a"], {}), (["A"], {}), ("a", {}), (None, {}), (["a"], None),
    (["a"], []), (["a"], {"A": []}), (["a"], {1: []}), (["a"], {"a": None}), (["a"], {"a": "b"}), (["a"], {"a": ["b", "b"]}),
    (["a"], {"a": ["B"]}), (["a"], {"a": [["b"]]}), (["a"], {None: []}), ({"a": 1}, {}), Tree(("a", [], [])), (["a"], {("a",): []}),
    deep_list(3000), (["a"], {"a": deep_list(3000)}), ([["a"]], {}),
]


class NestsTest(unittest.TestCase, Asserts):
    def test_is_nest(self):
        for nest in (None, NEST, [("a",), {}], (["a"], {"a": ()}), (["z"], {"q": ["q", "a"]})):
            self.assertIs(is_nest(nest), True, nest)
        for thing in WRONG:
            self.assertIs(is_nest(thing), False)

    def test_bad_nests(self):
        for thing in WRONG:
            with self.assertRaises(BadNest) as caught:
                is_of_nest(Tree(("a", [], [])), thing)
            self.assertIs(caught.exception.thing, thing)

    def test_is_of_nest(self):
        cases = [
            (("a", [], []), True), (("r", [], []), True), (("b", [], []), False), (("a", [], ["x", ("b", ["k"], ["y"])]), True),
            (("a", [], [("a", [], [("b", [], [])])]), True), (("a", [], [("b", [], [("a", [], [])])]), False),
            (("a", [], [("b", [], []), ("r", [], [])]), False), (("r", [], ["only text"]), True), (("r", [], [("a", [], [])]), False),
        ]
        for root, told in cases:
            self.assertIs(is_of_nest(Tree(root), NEST), told, root)
            self.assertIs(is_of_nest(Tree(root), None), True)

    def test_by_names_at_the_limits(self):
        self.assertIs(is_of_nest(tree=Tree(deep_node(200)), nest=NEST), True)
        self.assertIs(is_of_nest(tree=Tree(deep_node(200)), nest=(["a"], {"b": ["a"]})), False)
        self.assertIs(is_nest(thing=NEST), True)


if __name__ == "__main__":
    unittest.main()
