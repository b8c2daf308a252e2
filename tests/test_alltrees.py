import unittest

from naive import FEW_PLACES, Asserts, Dice, all_spines, deep_list, is_spine_naively_matched, nodes_along, some_selector
from pagefall.alltrees import is_never, is_within, least_spine, spine_apart
from pagefall.errors import BadList, BadNest, BadSelector
from pagefall.nests import is_of_nest
from pagefall.spines import is_spine_matched, spine_of, tree_along
from pagefall.trees import Tree

C = [(None, ("b", [], [], None)), ("child", ("a", [], [], None))]
D = [(None, ("b", [], [], None)), ("below", ("a", [], [], None))]
NEST = (["a"], {"a": ["b"]})
ANY = [(None, (None, [], [], None))]
WRONG = [None, 1, "a", [], [(None, ("A", [], [], None))], deep_list(2000), Tree(("a", [], []))]


def one(name=None, has=(), lacks=(), place=None):
    return [(None, (name, list(has), list(lacks), place))]


def spines_of(nest, names, classes, most):
    """All spines of a nest, the least first."""
    for spine in all_spines(names, classes, most):
        if nest is None or is_of_nest(tree_along(spine), nest):
            yield spine


class AllTreesTest(unittest.TestCase, Asserts):
    def test_example(self):
        self.assertIs(is_within(C, D), True)
        self.assertIs(is_within(D, C), False)
        self.assertEqual(least_spine([D], [C]), [("root", "a", ()), ("first", "b", ()), ("first", "b", ())])
        self.assertIsNone(spine_apart(C, D, NEST))
        self.assertEqual(spine_apart(C, D), [("root", "a", ()), ("first", "b", ()), ("first", "b", ())])
        self.assertIs(is_within(D, C, NEST), True)

    def test_one_letter(self):
        self.assertEqual(least_spine([], []), [("root", "a", ())])
        self.assertEqual(least_spine([], [ANY]), None)
        self.assertEqual(least_spine((ANY,), ()), [("root", "a", ())])
        self.assertEqual(least_spine([one("a")], []), [("root", "a", ())])
        self.assertEqual(least_spine([], [one("a")]), [("root", "b", ())])
        self.assertEqual(least_spine([one(has=["m"])], [one(has=["k"])]), [("root", "a", ("m",))])
        self.assertEqual(least_spine([one(has=["m"]), one(has=["k"])], []), [("root", "a", ("k", "m"))])
        self.assertEqual(least_spine([one(lacks=["k"])], [one(lacks=["m"])]), [("root", "a", ("m",))])

    def test_free_name(self):
        names = [one(chr(97 + k)) for k in range(26)]
        self.assertEqual(least_spine([], names), [("root", "aa", ())])
        self.assertEqual(least_spine([], names + [one("aa"), one("ac")]), [("root", "ab", ())])
        self.assertEqual(least_spine([], [one("b"), one("c")]), [("root", "a", ())])
        self.assertEqual(least_spine([one("zz")], []), [("root", "zz", ())])
        self.assertEqual(least_spine([[(None, ("zz", [], [], None)), ("child", (None, [], [], None))]], []),
                         [("root", "a", ()), ("first", "zz", ())])

    def test_names_as_python_compares(self):
        # Letters are ordered as tuples, so "ab" stands ahead of "b", though it is longer.
        self.assertEqual(least_spine([], [one("a"), one("c")], (["c", "b", "ab"], {})), [("root", "ab", ())])

    def test_places(self):
        self.assertEqual(least_spine([one(place=(0, 3))], []), [("root", "a", ()), ("first", "a", ()), ("next", "a", ()), ("next", "a", ())])
        self.assertEqual(least_spine([one(place=(2, 0)), one(place=(3, 0))], [])[-1], ("next", "a", ()))
        self.assertEqual(len(least_spine([one(place=(4, 0)), one(place=(3, 0))], [])), 13)
        self.assertIsNone(least_spine([one(place=(2, 0)), one(place=(4, 1))], []))
        self.assertEqual(least_spine([one(place=(1, 0))], []), [("root", "a", ())])

    def test_never(self):
        child_of_none = [(None, ("a", ["k"], [], None)), ("child", ("a", [], [], (0, 2))), ("child", ("a", [], [], (2, 0)))]
        self.assertIs(is_never(child_of_none), False)
        beside_root = [(None, (None, [], [], (0, 1))), ("behind", (None, [], [], None))]
        self.assertIs(is_never(beside_root), True)
        self.assertIs(is_never(one("b"), (["a"], {})), True)
        self.assertIs(is_never(one("b"), (["a"], {"b": ["b"]})), True)
        self.assertIs(is_never(one("b"), (["a"], {"a": ["b"]})), False)
        self.assertIs(is_never(C, (["b"], {"b": ["b"]})), True)

    def test_in_nests(self):
        nest = (["p"], {"p": ["a", "q"], "q": ["b"], "z": ["a"]})
        self.assertEqual(least_spine([one("b")], [], nest), [("root", "p", ()), ("first", "q", ()), ("first", "b", ())])
        self.assertEqual(least_spine([], [one("p")], nest), [("root", "p", ()), ("first", "a", ())])
        self.assertEqual(least_spine([], [], nest), [("root", "p", ())])
        self.assertIsNone(least_spine([C], [], nest))
        self.assertIsNone(least_spine([], [one("z"), one("q"), one("p"), one("b"), one("a")], nest))
        behind = [(None, ("a", [], [], None)), ("behind", ("q", [], [], None))]
        self.assertEqual(least_spine([behind], [], nest), [("root", "p", ()), ("first", "q", ()), ("next", "a", ())])

    def test_against_short_spines(self):
        dice = Dice(21)
        nests = [None, None, (["a"], {"a": ["a", "b"], "b": ["b"]}), (["b", "c"], {"c": ["a"], "a": ["a", "b"]})]
        for _ in range(60):
            nest = dice.pick(nests)
            has = [some_selector(dice, ["a", "b"], ["k"], 2, FEW_PLACES) for _ in range(dice.throw(3))]
            lacks = [some_selector(dice, ["a", "b"], ["k"], 2, FEW_PLACES) for _ in range(dice.throw(3))]
            told = least_spine(has, lacks, nest)
            asked = {simple[0] for selector in has + lacks for _, simple in selector} - {None}
            names = sorted(asked | {min({"a", "b", "c"} - asked)}) if nest is None else ["a", "b", "c"]
            classes = [()]
            if any(simple[1] or simple[2] for selector in has + lacks for _, simple in selector):
                classes.append(("k",))
            fits = (spine for spine in spines_of(nest, names, classes, 3) if self.fits(spine, has, lacks))
            least = next(fits, None)
            if least is None:
                self.assertTrue(told is None or len(told) > 3)
            else:
                self.assertEqual(told, least)
            if told is not None:
                self.assertTrue(self.fits(told, has, lacks))
                self.assertTrue(is_of_nest(tree_along(told), nest))

    def fits(self, spine, has, lacks):
        matched = [is_spine_naively_matched(spine, selector) for selector in has + lacks]
        return all(matched[:len(has)]) and not any(matched[len(has):])

    def test_lists_and_tuples(self):
        spine = least_spine([D], [C])
        self.assertEqual(least_spine((D,), [C]), spine)
        self.assertEqual(least_spine([D], (C,)), spine)
        mixed = [[(None, ("b", ("m",), ["k"], None))], [(None, (None, ["k"], ("n",), None))]]
        self.assertEqual([least_spine([selector], []) for selector in mixed], [[("root", "b", ("m",))], [("root", "a", ("k",))]])
        for nest in ((("a",), {"a": ["b"]}), [["a"], {"a": ("b",)}]):
            self.assertEqual(least_spine([C], [], nest), [("root", "a", ()), ("first", "b", ())])

    def test_apart_and_within(self):
        dice = Dice(22)
        for _ in range(60):
            nest = dice.pick([None, (["a"], {"a": ["a", "b"], "b": ["b"]})])
            first, other = some_selector(dice, ["a"], ["k"], 2, FEW_PLACES), some_selector(dice, ["a"], ["k"], 2, FEW_PLACES)
            apart = spine_apart(first, other, nest)
            both = [least_spine([first], [other], nest), least_spine([other], [first], nest)]
            found = sorted([spine for spine in both if spine is not None], key=lambda spine: (len(spine), spine))
            self.assertEqual(apart, found[0] if found else None)
            self.assertIs(is_within(first, other, nest), both[0] is None)
            self.assertIs(is_within(other, first, nest), both[1] is None)
            self.assertIs(is_never(first, nest), least_spine([first], [], nest) is None)

    def test_no_tree_has_it_with_fewer(self):
        spine = least_spine([D], [C])
        tree = tree_along(spine)
        self.assertEqual(len(tree), 3)
        self.assertEqual(spine_of(tree, (0, 0)), spine)
        self.assertTrue(is_spine_matched(spine, D))
        self.assertEqual(nodes_along(spine)[1], (0, 0))

    def test_bad_lists(self):
        for thing in (None, 1, "a", {}, Tree(("a", [], []))):
            self.assert_raises(BadList, 0, least_spine, thing, None, 1)
            self.assert_raises(BadList, 0, least_spine, [C], thing, 1)
        for thing in WRONG:
            self.assert_raises(BadList, 1, least_spine, [C, thing, None], None, 1)
            self.assert_raises(BadList, 2, least_spine, [C], [C, D, thing], 1)
            self.assert_raises(BadList, 0, least_spine, [], [thing], 1)

    def test_bad_selectors(self):
        for thing in WRONG:
            for work, arguments in ((is_never, (thing, 1)), (is_within, (thing, None, 1)), (is_within, (C, thing, 1)),
                                    (spine_apart, (thing, None, 1)), (spine_apart, (C, thing, 1))):
                with self.assertRaises(BadSelector) as caught:
                    work(*arguments)
                self.assertIs(caught.exception.thing, thing)

    def test_bad_nests(self):
        for nest in (1, (), (["a"], None), ([], {})):
            self.assert_keeps(BadNest, nest, least_spine, [], [], nest)
            self.assert_keeps(BadNest, nest, is_never, C, nest)
            self.assert_keeps(BadNest, nest, is_within, C, D, nest)
            self.assert_keeps(BadNest, nest, spine_apart, C, D, nest)

    def test_passed_stays_and_names(self):
        selector = [[None, ["b", ["m", "k"], [], [2, 0]]]]
        nest = [["b", "a"], {"a": ["b", "a"]}]
        least_spine(has=[selector], lacks=[], nest=nest)
        is_never(selector=selector, nest=nest)
        is_within(one=selector, other=selector, nest=nest)
        spine_apart(one=selector, other=selector, nest=nest)
        self.assertEqual(selector, [[None, ["b", ["m", "k"], [], [2, 0]]]])
        self.assertEqual(nest, [["b", "a"], {"a": ["b", "a"]}])
        least_spine([C], []).clear()
        self.assertEqual(len(least_spine([C], [])), 2)

    def test_limits(self):
        has = [one("a", ["k"], ["m"]), one(None, ["n"], [], (4, 3)), [(None, ("a", [], [], None)), ("below", ("b", ["o"], [], None))]]
        lacks = [[(None, (None, [], [], None)), ("child", ("c", [], [], None))], [(None, ("a", [], [], None)), ("next", ("b", [], [], None))]]
        spine = least_spine(has, lacks)
        self.assertEqual(spine[0], ("root", "b", ("k", "m", "n", "o")))
        self.assertEqual(len(spine), 4)
        self.assertTrue(self.fits(spine, has, lacks))


if __name__ == "__main__":
    unittest.main()
