import unittest

from naive import FEW_PLACES, Asserts, Dice, all_spines, deep_list, some_selector
from pagefall.alltrees import least_spine
from pagefall.errors import BadList, BadNest
from pagefall.papers import closed_list, is_closed
from pagefall.nests import is_of_nest
from pagefall.spines import tree_along
from pagefall.stands import stand_behind, stand_of
from pagefall.trees import Tree

C = [(None, ("b", [], [], None)), ("child", ("a", [], [], None))]
D = [(None, ("b", [], [], None)), ("below", ("a", [], [], None))]
P = [(None, (None, [], [], (2, 0)))]
Q = [(None, (None, [], [], (2, 1)))]
NEST = (["a"], {"a": ["b"]})


def joint_of(spine, selectors, nest):
    """The joint stand behind a spine, selector by selector."""
    joint = tuple(stand_of(spine, selector) for selector in selectors)
    if nest is None:
        return joint
    first = max(k for k, letter in enumerate(spine) if letter[0] != "next")
    parent = None
    depth = [0]
    for k in range(1, len(spine)):
        depth.append(depth[-1] + 1 if spine[k][0] == "first" else depth[-1])
    if depth[-1] > 0:
        parent = [spine[k][1] for k in range(first) if depth[k] == depth[-1] - 1][-1]
    return joint + (spine[-1][1], parent)


class PapersTest(unittest.TestCase, Asserts):
    def test_least_paper(self):
        self.assertEqual(closed_list([P, Q], [])[0], (((), None, (), (), (1,)), ((0,), None, (), (), (1,))))
        self.assertIsNone(closed_list([P], [Q]))
        self.assertIsNone(closed_list([], []))
        self.assertIsNone(closed_list([], [], NEST))
        one = [(None, ("b", [], [], None))]
        self.assertEqual(closed_list([one], [], (["a"], {})), [(((), None, (), (), ()), "a", None)])
        self.assertEqual(closed_list([one], [one], NEST), [
            (((), None, (), (), ()), (((), None, (), (), ())), "a", None),
            (((0,), (), (), (), ()), ((0,), (), (), (), ()), "b", "a"),
            (((0,), (), (), (0,), ()), ((0,), (), (), (0,), ()), "b", "a")])

    def test_has_what_each_leads_to(self):
        dice = Dice(31)
        papers = 0
        for _ in range(70):
            nest = dice.pick([None, (["a"], {"a": ["a", "b"], "b": ["c"]})])
            has = [some_selector(dice, ["a", "b"], ["k"], 2, FEW_PLACES) for _ in range(1 + dice.throw(2))]
            lacks = [some_selector(dice, ["a", "b"], ["k"], 2, FEW_PLACES) for _ in range(dice.throw(2))]
            paper = closed_list(has, lacks, nest)
            self.assertIs(paper is None, least_spine(has, lacks, nest) is not None)
            if paper is None:
                continue
            papers += 1
            self.assertIs(is_closed(has, lacks, nest, paper), True)
            self.assertEqual(len(set(paper)), len(paper))
            found = {}
            for spine in all_spines(["a", "b", "c"], [(), ("k",)], 3):
                if nest is None or is_of_nest(tree_along(spine), nest):
                    found.setdefault(joint_of(spine, has + lacks, nest), True)
            self.assertEqual(paper[:len(found)], list(found))
            # Each joint stand is first, or another one leads to it, so none of a least paper can be left out.
            for k in [dice.throw(len(paper)) for _ in range(4)]:
                self.assertIs(is_closed(has, lacks, nest, paper[:k] + paper[k + 1:]), False)
        self.assertGreater(papers, 10)

    def test_letter_by_letter(self):
        """Each letter of the question leads from each joint stand to one of the list, stand by stand."""
        dice = Dice(32)
        looked_at = 0
        for _ in range(60):
            nest = dice.pick([None, (["a"], {"a": ["a", "b"], "b": ["c"]})])
            has = [some_selector(dice, ["a", "b"], ["k"], 2, FEW_PLACES) for _ in range(2)]
            paper = closed_list(has, [], nest)
            if paper is None or len(paper) > 150:
                continue
            looked_at += 1
            kinds = [(name, classes) for name in ("a", "b", "c") for classes in ((), ("k",))]
            for joint in [None] + paper:
                for step in ("root", "first", "next"):
                    for name, classes in kinds:
                        behind = self.behind(has, nest, joint, (step, name, classes))
                        self.assertTrue(behind is None or behind in paper)
            self.assertFalse(any(0 in joint[0][0] and 0 in joint[1][0] for joint in paper))
        self.assertGreater(looked_at, 8)

    def behind(self, selectors, nest, joint, letter):
        """The joint stand behind one letter more, None if it cannot follow."""
        step, name, _ = letter
        if (joint is None) != (step == "root") or step == "next" and joint[0][1] is None:
            return None
        stands = joint[:2] if joint is not None else (None, None)
        behind = tuple(stand_behind(selector, stand, letter) for selector, stand in zip(selectors, stands))
        if nest is None:
            return behind
        parent = None if step == "root" else joint[2] if step == "first" else joint[3]
        if name not in (nest[0] if step == "root" else nest[1].get(parent, [])):
            return None
        return behind + (name, parent)

    def test_other_orders_and_words(self):
        paper = closed_list([C], [D])
        self.assertIs(is_closed([C], [D], None, paper), True)
        self.assertIs(is_closed([C], [D], None, tuple(paper[::-1])), True)
        self.assertIs(is_closed((C,), (D,), None, [[[list(part) if part is not None else None for part in stand] for stand in joint] for joint in paper]), True)
        self.assertIs(is_closed([C], [D], None, paper + [paper[0]]), False)
        self.assertIs(is_closed([C], [D], None, paper + [[list(stand) for stand in paper[3]]]), False)
        self.assertIs(is_closed([D], [C], None, paper), False)
        self.assertIs(is_closed([C], [], None, paper), False)

    def test_lists_and_tuples(self):
        nest = (("a",), {"a": ("b",)})
        paper = closed_list([C], [D], NEST)
        self.assertEqual(closed_list((C,), [D], nest), paper)
        self.assertEqual(closed_list([C], (D,), NEST), paper)
        self.assertIs(is_closed((C,), [D], nest, paper), True)
        self.assertIs(is_closed([C], (D,), nest, paper), True)

    def test_more_than_needed(self):
        one = [(None, ("b", [], [], None))]
        nest = (["a"], {})
        paper = [(((), None, (), (), ()), "a", None)]
        self.assertIs(is_closed([one], [], nest, paper), True)
        lone = (((), (), (), (), ()), "zzz", "q")
        self.assertIs(is_closed([one], [], nest, paper + [lone]), True)
        self.assertIs(is_closed([one], [], nest, [lone]), False)
        self.assertIs(is_closed([one], [], nest, paper + [(((0,), (), (), (), ()), "zzz", "q")]), False)
        self.assertIs(is_closed([one], [], (["a"], {"q": ["z"]}), paper + [lone]), False)
        self.assertIs(is_closed([one], [], (["a"], {"zzz": ["b"]}), paper + [lone]), False)
        more = (((), (), (), (), ()), "z", "q")
        self.assertIs(is_closed([one], [], (["a"], {"q": ["z"]}), paper + [lone, more]), True)

    def test_wrong_things(self):
        paper = closed_list([C], [D], NEST)
        self.assertIs(is_closed([C], [D], NEST, paper), True)
        joint = paper[1]
        wrong = [
            None, 1, True, "abc", (), joint[:3], joint + ("a",), joint[:2] + (None, "a"), joint[:2] + ("A", "a"), joint[:2] + ("b", None),
            joint[:2] + ("b", 1), (None,) + joint[1:], ("stand",) + joint[1:], (((), None, (), (), ()),) + joint[1:], deep_list(2000),
            (joint[0][:4],) + joint[1:], (((5,), (), (), (), ()),) + joint[1:], (((True,), (), (), (), ()),) + joint[1:], {},
            paper[0][:2] + ("a", "a"), Tree(("a", [], [])),
        ]
        for thing in wrong:
            self.assertIs(is_closed([C], [D], NEST, paper + [thing]), False)
        for thing in (None, 1, True, "abc", {}, [], (), deep_list(2000), {0: joint}, Tree(("a", [], []))):
            self.assertIs(is_closed([C], [D], NEST, thing), False)
        self.assertIs(is_closed([C], [D], None, paper), False)
        mixed = (((), None, (), (), ()), ((), (), (), (), ()))
        self.assertIs(is_closed([C], [D], None, closed_list([C], [D]) + [mixed]), False)
        self.assertIs(is_closed([], [], None, [()]), False)
        self.assertIs(is_closed([], [], None, []), False)

    def test_errors_in_order(self):
        for thing in (None, 1, "a", {}):
            self.assert_raises(BadList, 0, closed_list, thing, None, 1)
            self.assert_raises(BadList, 0, closed_list, [C], thing, 1)
            self.assert_raises(BadList, 0, is_closed, thing, None, 1, None)
            self.assert_raises(BadList, 0, is_closed, [C], thing, 1, None)
        self.assert_raises(BadList, 1, closed_list, [C, []], None, 1)
        self.assert_raises(BadList, 2, is_closed, [C], [C, D, None], 1, None)
        self.assert_raises(BadList, 1, is_closed, [C, []], None, 1, None)
        for nest in (1, (["a"],)):
            self.assert_keeps(BadNest, nest, closed_list, [C], [D], nest)
            self.assert_keeps(BadNest, nest, is_closed, [C], [D], nest, None)

    def test_told_is_new_and_names(self):
        paper = closed_list(has=[C], lacks=[D], nest=None)
        paper.clear()
        paper = closed_list([C], [D])
        self.assertIs(is_closed(has=[C], lacks=[D], nest=None, thing=paper), True)

    def test_limits(self):
        chain = [(None, ("a", ["k"], [], None)), ("below", ("b", [], [], None)), ("behind", ("a", [], ["k"], None))]
        paper = closed_list([chain], [chain[:2]])
        self.assertGreater(len(paper), 300)
        self.assertIs(is_closed([chain], [chain[:2]], None, paper), True)
        self.assertIs(is_closed([chain], [chain[:2]], None, paper[:-1]), False)
        self.assertIs(is_closed([chain], [chain[:2]], None, paper[1:]), False)


if __name__ == "__main__":
    unittest.main()
