import unittest

from naive import FEW_PLACES, Asserts, Dice, all_spines, deep_list, is_spine_naively_matched, some_selector
from pagefall.alltrees import least_spine
from pagefall.errors import BadList, BadNest
from pagefall.lots import lots_of
from pagefall.nests import is_of_nest
from pagefall.spines import tree_along

C = [(None, ("b", [], [], None)), ("child", ("a", [], [], None))]
D = [(None, ("b", [], [], None)), ("below", ("a", [], [], None))]
P = [(None, (None, [], [], (2, 0)))]
Q = [(None, (None, [], [], (2, 1)))]


class LotsTest(unittest.TestCase, Asserts):
    def test_examples(self):
        self.assertEqual(lots_of([C, D]), [
            ((), [("root", "a", ())]), ((0, 1), [("root", "a", ()), ("first", "b", ())]),
            ((1,), [("root", "a", ()), ("first", "b", ()), ("first", "b", ())])])
        self.assertEqual(lots_of([P, Q]), [
            ((1,), [("root", "a", ())]), ((0,), [("root", "a", ()), ("first", "a", ()), ("next", "a", ())])])

    def test_few(self):
        self.assertEqual(lots_of([]), [((), [("root", "a", ())])])
        self.assertEqual(lots_of((), (["c", "b"], {})), [((), [("root", "b", ())])])
        self.assertEqual(lots_of([[(None, (None, [], [], None))]]), [((0,), [("root", "a", ())])])
        self.assertEqual(lots_of([[(None, ("a", [], [], None))]]), [((0,), [("root", "a", ())]), ((), [("root", "b", ())])])

    def test_against_short_spines(self):
        dice = Dice(41)
        for _ in range(40):
            nest = dice.pick([None, None, (["a"], {"a": ["a", "b"], "b": ["c"]})])
            selectors = [some_selector(dice, ["a", "b"], ["k"], 2, FEW_PLACES) for _ in range(1 + dice.throw(3))]
            asked = {simple[0] for selector in selectors for _, simple in selector} - {None}
            names = sorted(asked | {min({"a", "b", "c"} - asked)}) if nest is None else ["a", "b", "c"]
            asks_k = any(simple[1] or simple[2] for selector in selectors for _, simple in selector)
            found = {}
            for spine in all_spines(names, [(), ("k",)] if asks_k else [()], 3):
                if nest is None or is_of_nest(tree_along(spine), nest):
                    matched = [is_spine_naively_matched(spine, selector) for selector in selectors]
                    found.setdefault(tuple(k for k, told in enumerate(matched) if told), spine)
            lots = lots_of(selectors, nest)
            self.assertEqual([lot for lot in lots if len(lot[1]) <= 3], list(found.items()))
            self.assertEqual(lots, sorted(lots, key=lambda lot: (len(lot[1]), lot[1])))
            for numbers, spine in lots:
                has = [selectors[k] for k in numbers]
                lacks = [selector for k, selector in enumerate(selectors) if k not in numbers]
                self.assertEqual(least_spine(has, lacks, nest), spine)
            self.assertEqual(len(set(numbers for numbers, _ in lots)), len(lots))

    def test_all_of_them(self):
        dice = Dice(42)
        for _ in range(8):
            selectors = [some_selector(dice, ["a"], ["k"], 2, FEW_PLACES) for _ in range(3)]
            lots = dict(lots_of(selectors))
            for some in range(8):
                numbers = tuple(k for k in range(3) if some >> k & 1)
                lacks = [selector for k, selector in enumerate(selectors) if k not in numbers]
                self.assertEqual(least_spine([selectors[k] for k in numbers], lacks), lots.get(numbers))

    def test_facts(self):
        dice = Dice(43)
        for _ in range(12):
            selectors = [some_selector(dice, ["a"], ["k"], 2, FEW_PLACES) for _ in range(3)]
            nest = (["a"], {"a": ["a"]})
            lots, fewer = dict(lots_of(selectors)), dict(lots_of(selectors[:2]))
            self.assertEqual({tuple(k for k in numbers if k < 2) for numbers in lots}, set(fewer))
            self.assertLessEqual(set(dict(lots_of(selectors, nest))), set(lots))

    def test_errors(self):
        for thing in (None, 1, "a", {}, True):
            self.assert_raises(BadList, 0, lots_of, thing, 1)
        for thing in (None, [], [(None, ("A", [], [], None))], deep_list(2000)):
            self.assert_raises(BadList, 2, lots_of, [C, D, thing, None], 1)
        self.assert_raises(BadNest, 1, lots_of, [C, D], 1)

    def test_told_is_new_and_names(self):
        lots = lots_of(selectors=[C, D], nest=None)
        lots[0][1].clear()
        lots.clear()
        self.assertEqual(lots_of([C, D])[0], ((), [("root", "a", ())]))

    def test_limits(self):
        selectors = [[(None, (name, ["k"], [], None))] for name in ("a", "b", "c")]
        selectors += [[(None, ("a", [], ["m"], None)), ("next", ("b", [], [], None))], [(None, (None, ["n"], ["o"], (4, 3)))]]
        nest = (["r"], {"r": ["a", "b", "c", "d"]})
        lots = lots_of(selectors, nest)
        self.assertEqual(len(lots), 12)
        self.assertEqual(lots[0], ((), [("root", "r", ())]))
        self.assertEqual([numbers for numbers, _ in lots[-2:]], [(0, 3, 4), (3, 4)])
        self.assertEqual(lots[-2][1][2:], [("next", "b", ()), ("next", "a", ("k", "n"))])
        self.assertEqual(lots[-1][1][2:], [("next", "b", ()), ("next", "a", ("n",))])
        two = [[(None, (None, [klass], [], None))] for klass in ("k", "m")]
        self.assertEqual([numbers for numbers, _ in lots_of(two)], [(), (0,), (0, 1), (1,)])


if __name__ == "__main__":
    unittest.main()
