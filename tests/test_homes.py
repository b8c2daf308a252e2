import unittest

from dresswise import DRESS, Plain, some_dressed
from naive import Asserts, Dice, deep_list
from pagefall.boxes import all_boxes, box_at, shown_as
from pagefall.dresses import Dressed
from pagefall.errors import NoNode
from pagefall.homes import firm_above, home_of, turned_by
from test_boxes import BLOCK, EXAMPLE, FLOAT, GONE, PLACED, ROW, TABLE, dressed


def put_in(page, path, node, told):
    """The page with another node in the place of one, dressed so."""
    tree = page.own_tree().without_node(path).with_node(path, node)
    rows = {at: {word: page.worth_at(at, word) for word in DRESS} for at in page.own_tree().all_elements() if at[:len(path)] != path}
    return Dressed(tree, {**rows, **told})


def kind_and_inner(page, path):
    _, kind, inner = box_at(page, path)
    return (kind, [part if kind == "lines" else part[0] for part in inner])


class HomesTest(unittest.TestCase, Asserts):
    def homes(self, page):
        return [home_of(page, path) for path in page.own_tree().all_paths()]

    def test_the_example(self):
        self.assertEqual(self.homes(EXAMPLE), [((), 0), None, ((1,), 0), ((1,), 1), ((1, 1), 0), ((1, 1), 0), ((), 3), ((3,), 0), ((3,), 0)])
        self.assertEqual([firm_above(EXAMPLE, path) for path in [(1, 1, 0), (1, 0), (1,), (3, 0)]], [(1, 1), (), (), (3,)])
        self.assertEqual([turned_by(EXAMPLE, path) for path in [(1, 0), (1, 1), (1, 1, 0), (1,), (2,)]], [[], [(1,)], [], [], []])
        self.assertEqual(home_of(EXAMPLE, [2]), ((), 3))
        self.assertEqual(firm_above(EXAMPLE, [1, 0]), ())
        self.assertEqual(turned_by(EXAMPLE, [1, 1]), [(1,)])

    def test_line_ones(self):
        node = ("r", [], [("l", [], []), ("l", [], [("l", [], [" "]), "x"]), ("b", [], []), ("l", [], [" "]), ("b", [], []), ("l", [], [("f", [], [])])])
        self.assertEqual(self.homes(dressed(node, b=BLOCK, f=FLOAT)), [((), 0), ((), 2), ((), 2), ((), 2), ((), 2), ((), 2), ((2,), 0), None, None, ((4,), 0), ((), 6), ((5, 0), 0)])
        # In a block of lines nothing is needed to stand in its run.
        self.assertEqual(self.homes(dressed(("r", [], [("l", [], []), " "]))), [((), 0), ((), 0), ((), 0)])

    def test_nowhere(self):
        node = ("r", [], [("g", [], ["x", ("b", [], ["y"])]), ("t", [], ["x", ("s", [], ["y", ("c", [], ["z"])]), ("g", [], [])]), ("b", [], [])])
        page = dressed(node, g=GONE, b=BLOCK, t=TABLE)
        self.assertEqual(self.homes(page), [((), 0), None, None, None, None, ((1,), 0), None, ((1, 1), 0), None, ((1, 1, 1), 0), ((1, 1, 1), 0), None, ((2,), 0)])

    def test_rows(self):
        page = dressed(("r", [], ["a", ("p", [], ["b"]), " ", ("i", [], ["c"]), " "]), r=ROW, p=PLACED)
        self.assertEqual(self.homes(page), [((), 0), ((), 1), ((1,), 0), ((1,), 0), ((), 1), ((3,), 0), ((3,), 0), None])

    def test_firm_ones(self):
        node = ("r", [], [("l", [], [("l", [], ["a", ("b", [], [])]), ("f", [], ["b"]), ("p", [], ["c"])]), ("t", [], [("s", [], [("c", [], ["d"])])]), ("w", [], [("i", [], ["e"])]), ("g", [], [("b", [], ["f"])])])
        page = dressed(node, b=BLOCK, f=FLOAT, p=PLACED, t=TABLE, w=ROW, g=GONE)
        told = [firm_above(page, path) for path in page.own_tree().all_paths()[1:]]
        self.assertEqual(told, [(), (), (), (), (), (0, 1), (), (0, 2), (), (1,), (1, 0), (1, 0, 0), (), (2,), (2, 0), (), (), ()])

    def test_firm_ones_step_by_step(self):
        page = dressed(("r", [], [("b", [], [("l", [], [("l", [], ["a"])])])]), b=BLOCK)
        self.assertEqual([firm_above(page, (0, 0, 0, 0)[:depth]) for depth in (1, 2, 3, 4)], [(), (0,), (0,), (0,)])

    def test_turning(self):
        node = ("r", [], [("l", [], [("l", [], ["a"]), ("l", [], ["b", ("b", [], [])])]), ("g", [], [("l", [], ["c"])])])
        page = dressed(node, b=BLOCK, g=GONE)
        self.assertEqual(turned_by(page, (0, 0, 0)), [(0, 0)])
        self.assertEqual(turned_by(page, (0, 1, 0)), [])
        self.assertEqual(turned_by(page, (0, 1, 1)), [(0,), (0, 1)])
        self.assertEqual(turned_by(page, (0, 1)), [(0,)])
        self.assertEqual(turned_by(page, (1, 0, 0)), [])
        self.assertEqual(turned_by(page, (1, 0)), [])
        self.assertEqual(turned_by(page, (1,)), [])

    def test_thrown_trees(self):
        dice = Dice(77)
        for _ in range(50):
            page = some_dressed(dice, 3 + dice.throw(16))
            plain = Plain(page)
            homes = plain.homes()
            for path in page.own_tree().all_paths():
                home = home_of(page, path)
                if plain.is_element(path) and plain.has_box(path):
                    self.assertEqual(home, (path, 0))
                elif not plain.is_element(path):
                    self.assertEqual(home, homes.get(("text", path)))
                if path != ():
                    self.check_change(page, path, plain)

    def check_change(self, page, path, plain):
        firm, turned = firm_above(page, path), turned_by(page, path)
        text, block = put_in(page, path, "x", {}), put_in(page, path, ("n", [], []), {path: BLOCK})
        above = [path[:depth] for depth in range(len(path))]
        self.assertEqual(turned, [at for at in above if shown_as(text, at) == "line" and shown_as(block, at) == "block"])
        self.assertEqual(home_of(text, path) if plain.has_box(path[:-1]) else None, Plain(text).homes().get(("text", path)) if plain.has_box(path[:-1]) else None)
        for node, told in (("x", {}), ("  ", {}), (("n", [], ["x", ("m", [], [])]), {path: FLOAT, path + (1,): BLOCK}), (("n", [], []), {path: PLACED}), (("n", [], [("m", [], [])]), {path + (1 - 1,): TABLE}), (("n", [], []), {path: ROW})):
            self.check_outside(page, put_in(page, path, node, told), path, firm, turned)

    def check_outside(self, page, other, path, firm, turned):
        """What neither is the firm one nor stands in it stays; all of turned turn, or none; no other one outside turns."""
        outside = [at for at in page.own_tree().all_elements() if at[:len(path)] != path]
        unlike = [at for at in outside if shown_as(page, at) != shown_as(other, at)]
        self.assertIn(unlike, ([], turned))
        for box, number in all_boxes(page):
            if number == 0 and box[:len(firm)] != firm:
                self.assertEqual(kind_and_inner(page, box), kind_and_inner(other, box))

    def test_errors(self):
        for path in (None, (0, 0), (9,), (True,), "r", deep_list(2000)):
            for work in (home_of, firm_above, turned_by):
                self.assert_keeps(NoNode, path, work, EXAMPLE, path)
        for path in ((), []):
            self.assert_keeps(NoNode, path, firm_above, EXAMPLE, path)
            self.assert_keeps(NoNode, path, turned_by, EXAMPLE, path)


if __name__ == "__main__":
    unittest.main()
