import unittest

from naive import FEW_PLACES, Asserts, Dice, deep_list, some_selector
from pagefall.alltrees import is_within, spine_apart
from pagefall.errors import BadNest, BadSelector, NoPart
from pagefall.lessened import idle_parts, lessened_selector, parts_of, without_part
from pagefall.trees import Tree

C = [(None, ("b", [], [], None)), ("child", ("a", [], [], None))]
D = [(None, ("b", [], [], None)), ("below", ("a", [], [], None))]
NEST = (["a"], {"a": ["b"]})
FULL = [(None, ("b", ["m", "k"], ["z", "c"], (2, 0))), ("next", (None, [], ["k"], None)), ("below", ("a", ["k"], [], [0, 3]))]
PARTS = [(0, "name", "b"), (0, "has", "k"), (0, "has", "m"), (0, "lacks", "c"), (0, "lacks", "z"), (0, "place", (2, 0)),
         (1, "lacks", "k"), (2, "name", "a"), (2, "has", "k"), (2, "place", (0, 3)), (2, "step", "below")]
WRONG = [None, 1, "a", [], {}, [(None, ("A", [], [], None))], deep_list(2000), Tree(("a", [], []))]


def naive_lessened(selector, nest):
    """What is left, each time looked at from the first part on."""
    while idle_parts(selector, nest):
        selector = without_part(selector, idle_parts(selector, nest)[0])
    return selector


class LessenedTest(unittest.TestCase, Asserts):
    def test_parts(self):
        self.assertEqual(parts_of(FULL), PARTS)
        self.assertEqual(parts_of(C), [(0, "name", "b"), (1, "name", "a"), (1, "step", "child")])
        self.assertEqual(parts_of([(None, (None, [], [], None))]), [])
        self.assertEqual(parts_of(((None, ("a", (), (), None)),)), [(0, "name", "a")])

    def test_without(self):
        first, middle, last = [(None, ("b", ["k", "m"], ["c", "z"], (2, 0))), ("next", (None, [], ["k"], None)), ("below", ("a", ["k"], [], (0, 3)))]
        cases = {
            (0, "name", "b"): [(None, (None, ["k", "m"], ["c", "z"], (2, 0))), middle, last],
            (0, "has", "m"): [(None, ("b", ["k"], ["c", "z"], (2, 0))), middle, last],
            (0, "lacks", "c"): [(None, ("b", ["k", "m"], ["z"], (2, 0))), middle, last],
            (0, "place", (2, 0)): [(None, ("b", ["k", "m"], ["c", "z"], None)), middle, last],
            (1, "lacks", "k"): [first, ("next", (None, [], [], None)), last],
            (2, "place", (0, 3)): [first, middle, ("below", ("a", ["k"], [], None))],
            (2, "step", "below"): [first, middle],
        }
        for part, left in cases.items():
            self.assertEqual(without_part(FULL, part), left)
            self.assertEqual(without_part(FULL, list(part)), left)
        self.assertEqual(without_part(FULL, [0, "place", [2, 0]]), cases[(0, "place", (2, 0))])
        self.assertEqual(FULL[0][1][1], ["m", "k"])

    def test_no_part(self):
        wrong = [None, 1, "a", [], (), {}, (0, "name"), (0, "name", "a"), (1, "name", "b"), (0, "has", "c"), (0, "lacks", "k"), (True, "lacks", "k"),
                 (False, "name", "b"), (0, "place", (0, 2)), (0, "place", (2, False)), (0, "place", 2), (0, "place", None), (1, "name", None),
                 (2, "step", "child"), (1, "step", "next"), (0, "step", None), (3, "name", "a"), (-1, "name", "a"), (0, "name", ["b"]),
                 (0, ["name"], "b"), ([0], "name", "b"), (0, "name", "b", 0), (0, "place", deep_list(2000)), deep_list(2000), Tree(("a", [], []))]
        for part in wrong:
            with self.assertRaises(NoPart) as caught:
                without_part(FULL, part)
            self.assertIs(caught.exception.part, part)
        self.assert_raises(NoPart, (0, "step", None), without_part, FULL[:1], (0, "step", None))
        placed = [(None, (None, [], [], (1, 0)))]
        self.assertEqual(without_part(placed, (0, "place", (1, 0))), [(None, (None, [], [], None))])
        for place in ((True, 0), (1, False), (1, 0, 0), (1,), "10"):
            self.assert_raises(NoPart, (0, "place", place), without_part, placed, (0, "place", place))

    def test_examples(self):
        self.assertEqual(idle_parts(D, NEST), [(0, "name", "b"), (1, "name", "a"), (1, "step", "below")])
        self.assertEqual(lessened_selector(D, NEST), [(None, (None, [], [], None)), ("below", (None, [], [], None))])
        self.assertEqual(idle_parts(D), [])
        self.assertEqual(lessened_selector(D), D)

    def test_idle_without_a_nest(self):
        any_above = [(None, ("b", [], [], (0, 2))), ("child", (None, [], [], None))]
        self.assertEqual(idle_parts(any_above), [(1, "step", "child")])
        self.assertEqual(lessened_selector(any_above), any_above[:1])
        all_numbers = [(None, ("b", [], [], (1, 0)))]
        self.assertEqual(idle_parts(all_numbers), [(0, "place", (1, 0))])
        never = [(None, ("b", ["k"], [], (0, 1))), ("behind", ("a", [], ["m"], None))]
        self.assertEqual(idle_parts(never), [(0, "name", "b"), (0, "has", "k"), (1, "name", "a"), (1, "lacks", "m")])
        self.assertEqual(lessened_selector(never), [(None, (None, [], [], (0, 1))), ("behind", (None, [], [], None))])
        sorted_only = [(None, ("b", ["m", "k"], [], None))]
        self.assertEqual(lessened_selector(sorted_only), [(None, ("b", ["k", "m"], [], None))])

    def test_steps_left_out_one_after_the_other(self):
        nest = (["a"], {"a": ["b"], "b": ["c"], "c": ["c"]})
        chain = [(None, ("c", [], [], None)), ("below", ("b", [], [], None)), ("child", ("a", [], [], None))]
        self.assertEqual(lessened_selector(chain, nest), naive_lessened(chain, nest))
        self.assertEqual(lessened_selector(chain, nest), [(None, (None, [], [], None)), ("below", (None, [], [], None)), ("child", (None, [], [], None))])
        behind = [(None, ("c", [], [], None)), ("below", ("b", [], [], None)), ("below", ("a", [], [], (1, 0)))]
        self.assertEqual(lessened_selector(behind, nest), naive_lessened(behind, nest))

    def test_facts(self):
        dice = Dice(51)
        for _ in range(60):
            nest = dice.pick([None, (["a", "b"], {"a": ["b"], "b": ["b"]})])
            selector = some_selector(dice, ["a", "b"], ["k"], 3, FEW_PLACES)
            idle = idle_parts(selector, nest)
            for part in parts_of(selector):
                left = without_part(selector, part)
                self.assertIs(is_within(selector, left, nest), True)
                self.assertIs(spine_apart(selector, left, nest) is None, part in idle)
            lessened = lessened_selector(selector, nest)
            self.assertIsNone(spine_apart(selector, lessened, nest))
            self.assertEqual(idle_parts(lessened, nest), [])
            self.assertEqual(parts_of(lessened), parts_of(naive_lessened(selector, nest)))

    def test_errors_in_order(self):
        for thing in WRONG:
            for work, more in ((parts_of, ()), (without_part, (None,)), (idle_parts, (1,)), (lessened_selector, (1,))):
                with self.assertRaises(BadSelector) as caught:
                    work(thing, *more)
                self.assertIs(caught.exception.thing, thing)
        for nest in (1, (["a"], {"a": "b"})):
            self.assert_keeps(BadNest, nest, idle_parts, C, nest)
            self.assert_keeps(BadNest, nest, lessened_selector, C, nest)
            self.assert_keeps(BadNest, nest, idle_parts, [(None, (None, [], [], None))], nest)
            self.assert_keeps(BadNest, nest, lessened_selector, [(None, (None, [], [], None))], nest)

    def test_told_is_new_and_names(self):
        selector = [[None, ["b", ["m", "k"], [], [2, 0]]]]
        left = without_part(selector=selector, part=(0, "name", "b"))
        left[0][1][1].append("x")
        lessened_selector(selector=selector, nest=None)[0][1][1].append("x")
        parts_of(selector=selector).clear()
        idle_parts(selector=selector, nest=None)
        self.assertEqual(selector, [[None, ["b", ["m", "k"], [], [2, 0]]]])
        self.assertEqual(without_part(selector, (0, "has", "k")), [(None, ("b", ["m"], [], (2, 0)))])

    def test_limits(self):
        selector = [(None, ("a", ["k"], ["m", "n"], (2, 0))), ("below", ("b", ["o"], [], None)), ("behind", ("c", [], ["k"], None))]
        self.assertEqual(idle_parts(selector), [])
        self.assertEqual(lessened_selector(selector), selector)


if __name__ == "__main__":
    unittest.main()
