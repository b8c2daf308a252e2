import unittest
from fractions import Fraction

from naive import Asserts, Dice, deep_list
from pagefall.designs import Design
from pagefall.errors import BadClass, BadNode, BadWidth, NoElement, NoNode, NoPlace, NoText, PageError
from pagefall.layouts import layout_at
from pagefall.pages import Page
from pagefall.reaches import reach_of
from pagefall.sheets import Sheet
from pagefall.trees import Tree, behind_put, behind_take
from pagefall.worths import all_worths
from plainpage import WORTHS, PlainPage, some_design, some_sheet
from test_layouts import NO_WIDTHS, page, rule

NOTHING = {"gone": [], "moved": [], "new": [], "sized": []}
DEEDS = ["put_node", "take_node", "new_text", "mark_class", "unmark_class", "new_sheet", "new_width"]


def live(design, width=20):
    return Page(design.own_tree(), design.own_sheet(), (width, 1))


def kept_by(live_page):
    return (live_page.tree_now().root_node(), live_page.sheet_now().all_rules(), live_page.width_now(), live_page.deeds_done(), live_page.last_changes())


def some_deed(dice, live_page):
    """The name and the arguments of a deed, perhaps one that is refused."""
    tree = live_page.tree_now()
    paths = tree.all_paths()
    path = dice.pick(paths + [(7, 7)])
    name = dice.pick(DEEDS + DEEDS[:5])
    if name == "put_node":
        return name, (path + (dice.throw(3),) if dice.throw(3) else path, dice.pick(["aa b", ("b", [], ["c"]), ("a", ["k"], []), ("c", [], [("d", [], ["x y"])]), 5]))
    if name == "take_node":
        return name, (path,)
    if name == "new_text":
        return name, (path, dice.pick(["a b c", "dd", " ", "", 7]))
    if name in ("mark_class", "unmark_class"):
        return name, (path, dice.pick(["k", "k", "K"]))
    if name == "new_sheet":
        return name, (some_sheet(dice, tuple(WORTHS), 4),)
    return name, (dice.pick([(dice.throw(50), 1), (dice.throw(90), 2), (-1, 2), None]),)


def path_behind(name, arguments, is_back, path):
    """The path that a node has behind a deed, or behind it is taken back."""
    if name not in ("put_node", "take_node"):
        return path
    return behind_put(path, arguments[0]) if (name == "put_node") != is_back else behind_take(path, arguments[0])


def own_places(design, width):
    there = PlainPage(design, width)
    boxes = there.layout()
    corners = {box[0]: (Fraction(*box[2]), box[3]) for box in boxes}
    places = {}
    for box in boxes:
        outer = corners[there.inside[box[0]]] if box[0] in there.inside else (0, 0)
        places[box[0]] = (corners[box[0]][0] - outer[0], corners[box[0]][1] - outer[1])
    return boxes, places


def plain_changes(one, other, moves):
    """The lists of what is new, gone, sized and moved from one design with its width to another one."""
    (ones, one_places), (others, other_places) = own_places(*one), own_places(*other)
    behind = {}
    for box in ones:
        path = moves(box[0][0])
        if path is not None:
            behind[(path, box[0][1], box[1])] = box
    told = {"gone": [], "moved": [], "new": [], "sized": []}
    met = []
    for box in others:
        kept = behind.get((box[0][0], box[0][1], box[1]))
        if kept is None:
            told["new"].append(box[0])
            continue
        met.append(kept[0])
        if kept[4:] != box[4:]:
            told["sized"].append(box[0])
        elif one_places[kept[0]] != other_places[box[0]]:
            told["moved"].append(box[0])
    told["gone"] = [box[0] for box in ones if box[0] not in met]
    return told


class PagesTest(unittest.TestCase, Asserts):
    def test_what_is_kept(self):
        design = page(["aa"])
        tree, sheet = design.own_tree(), design.own_sheet()
        live_page = Page(width=[40, 2], sheet=sheet, tree=tree)
        self.assertTrue(live_page.tree_now() == tree and live_page.sheet_now() == sheet)
        self.assertEqual((live_page.width_now(), live_page.deeds_done(), live_page.last_changes()), ((20, 1), 0, NOTHING))
        self.assertEqual(list(live_page.last_changes()), ["gone", "moved", "new", "sized"])
        self.assertEqual(live_page.layout_now(), layout_at(design, (20, 1)))
        live_page.layout_now().clear()
        live_page.last_changes()["new"].append(5)
        self.assertEqual((len(live_page.layout_now()), live_page.last_changes()), (2, NOTHING))
        self.assertTrue(live_page == Page(tree, sheet, (20, 1)))
        for other in (Page(tree, sheet, (20, 3)), Page(tree, Sheet([]), (20, 1)), Page(Tree(("a", [], [])), sheet, (20, 1)), design, None, 5):
            self.assertFalse(live_page == other)
        for width in NO_WIDTHS:
            self.assert_keeps(BadWidth, width, Page, tree, sheet, width)
            self.assert_keeps(BadWidth, width, live_page.new_width, width)

    def test_each_deed(self):
        live_page = live(page(["aa", ("b", ["m"], ["c"])], rule("b", show="block")))
        live_page.put_node(path=(1,), node=("b", (), ["dd"]))
        self.assertEqual(live_page.tree_now().root_node(), ("page", (), ("aa", ("b", (), ("dd",)), ("b", ("m",), ("c",)))))
        self.assertEqual(live_page.last_changes(), {"gone": [], "moved": [((2,), 0)], "new": [((1,), 0), ((1, 0), 0)], "sized": [((), 0)]})
        live_page.take_node([1])
        self.assertEqual(live_page.last_changes(), {"gone": [((1,), 0), ((1, 0), 0)], "moved": [((1,), 0)], "new": [], "sized": [((), 0)]})
        live_page.new_text((0,), "a aaa")
        self.assertEqual(live_page.last_changes(), dict(NOTHING, sized=[((0,), 0)]))
        live_page.mark_class((1,), "k")
        self.assertEqual((live_page.tree_now().node_at((1,))[1], live_page.last_changes()), (("k", "m"), NOTHING))
        live_page.unmark_class([1], "m")
        self.assertEqual(live_page.tree_now().node_at((1,))[1], ("k",))
        live_page.new_sheet(Sheet([rule(None, size=1), rule("b", show="none")]))
        # The nameless box turns into the root's lines: of the root another kind.
        self.assertEqual(live_page.last_changes(), {"gone": [((), 0), ((), 1), ((1,), 0), ((1, 0), 0)], "moved": [], "new": [((), 0)], "sized": []})
        live_page.new_width((8, 2))
        self.assertEqual(live_page.width_now(), (4, 1))
        self.assertEqual(live_page.last_changes(), {"gone": [], "moved": [], "new": [((0,), 1)], "sized": [((), 0), ((0,), 0)]})
        self.assertEqual(live_page.deeds_done(), 7)
        names = []
        while live_page.deeds_done():
            names.append(live_page.undo_last())
        self.assertEqual(names, ["new_width", "new_sheet", "unmark_class", "mark_class", "new_text", "take_node", "put_node"])
        self.assertEqual(live_page.last_changes(), {"gone": [((1,), 0), ((1, 0), 0)], "moved": [((1,), 0)], "new": [], "sized": [((), 0)]})
        self.assertEqual(live_page.do_again(), "put_node")

    def test_wrong_deeds(self):
        live_page = live(page(["aa", ("b", [], [])]))
        live_page.mark_class((), "k")
        live_page.undo_last()
        before = kept_by(live_page)
        for path in (None, 5, "ab", (3,), (0, 0), (-1,), (True,), {}, deep_list(2000)):
            self.assert_keeps(NoPlace, path, live_page.put_node, path, None)
            self.assert_keeps(NoNode, path, live_page.take_node, path)
            self.assert_keeps(NoNode, path, live_page.new_text, path, None)
            for work in (live_page.mark_class, live_page.unmark_class, live_page.class_touches):
                self.assert_keeps(NoElement, path, work, path, None)
            for work in (live_page.is_sealed, live_page.felt_outside):
                self.assert_keeps(NoElement, path, work, path)
        self.assert_raises(NoPlace, (), live_page.put_node, (), "a")
        self.assert_raises(NoPlace, (), live_page.take_node, ())
        self.assert_raises(BadNode, (1, 0), live_page.put_node, [1], ("b", [], [""]))
        self.assert_raises(NoText, (1,), live_page.new_text, (1,), None)
        self.assert_raises(BadNode, (0,), live_page.new_text, (0,), "")
        for klass in (None, "K", "", 5, ("k",), deep_list(2000)):
            for work in (live_page.mark_class, live_page.unmark_class, live_page.class_touches):
                self.assert_keeps(BadClass, klass, work, (1,), klass)
        self.assertEqual(kept_by(live_page), before)
        # A deed that raises is none: what was taken back can still be done again.
        self.assertEqual(live_page.do_again(), "mark_class")

    def test_the_same_box(self):
        # A text put ahead: the nameless box has another number, so it is gone and new.
        live_page = live(page([("b", [], []), "aa"], rule("b", show="block", height=3)))
        live_page.put_node((0,), " ")
        self.assertEqual(live_page.last_changes(), {"gone": [((), 2)], "moved": [], "new": [((), 3)], "sized": []})
        # A box goes along with the one in which it stands: its own place is kept.
        deep = live(page([("h", [], []), ("b", [], [("c", [], ["aa"])])], rule("b", show="block", mtop=1), rule("c", show="block"), rule("h", show="block")))
        deep.new_sheet(Sheet(deep.sheet_now().all_rules() + [rule("h", height=5)]))
        self.assertEqual(deep.last_changes(), {"gone": [], "moved": [((1,), 0)], "new": [], "sized": [((), 0), ((0,), 0)]})
        self.assertEqual(deep.layout_now()[3][3], 6)

    def test_rows_of_deeds(self):
        dice = Dice(131)
        for _ in range(25):
            design = some_design(dice, 3 + dice.throw(12), 3 + dice.throw(8))
            width = (dice.throw(50), 1)
            live_page = Page(design.own_tree(), design.own_sheet(), width)
            done, undone = [], []
            for _ in range(16):
                ahead = (Design(live_page.tree_now(), live_page.sheet_now()), live_page.width_now())
                fall = dice.throw(5)
                if fall < 3:
                    name, arguments = some_deed(dice, live_page)
                    before = kept_by(live_page)
                    try:
                        self.assertIsNone(getattr(live_page, name)(*arguments))
                    except PageError:
                        self.assertEqual(kept_by(live_page), before)
                        continue
                    done.append((name, arguments))
                    undone.clear()
                    is_back = False
                else:
                    rows, others, work, is_back = (done, undone, live_page.undo_last, True) if fall == 3 else (undone, done, live_page.do_again, False)
                    before = kept_by(live_page)
                    name = work()
                    if not rows:
                        self.assertIsNone(name)
                        self.assertEqual(kept_by(live_page), before)
                        continue
                    others.append(rows.pop())
                    self.assertEqual(name, others[-1][0])
                    name, arguments = others[-1]
                self.assertEqual(live_page.deeds_done(), len(done))
                now = (Design(live_page.tree_now(), live_page.sheet_now()), live_page.width_now())
                self.assertEqual(live_page.layout_now(), layout_at(*now))
                self.assertEqual(live_page.last_changes(), plain_changes(ahead, now, lambda path: path_behind(name, arguments, is_back, path)))

    def test_twins(self):
        live_page = live(page(["aa"]))
        live_page.new_text((0,), "bb cc")
        live_page.new_width((3, 1))
        live_page.undo_last()
        twin = live_page.twin_page()
        self.assertTrue(twin == live_page)
        self.assertEqual(kept_by(twin), kept_by(live_page))
        self.assertEqual((twin.do_again(), twin.undo_last(), twin.undo_last(), twin.undo_last()), ("new_width", "new_width", "new_text", None))
        twin.put_node((0,), "x")
        self.assertEqual((live_page.deeds_done(), live_page.tree_now().root_node()[2], live_page.width_now()), (1, ("bb cc",), (20, 1)))
        self.assertEqual((live_page.do_again(), twin.do_again()), ("new_width", None))

    def test_trials(self):
        live_page = live(page(["aa"]))
        live_page.new_text((0,), "bb")
        live_page.mark_class((), "k")
        live_page.undo_last()
        before = kept_by(live_page)

        def work(held):
            self.assertIs(held, live_page)
            held.new_width((3, 1))
            held.undo_last()
            held.undo_last()
            return held.tree_now().root_node()[2]

        self.assertEqual(live_page.try_out(work), ("aa",))
        self.assertEqual(kept_by(live_page), before)

        def failing(held):
            held.new_text((0,), "cc")
            held.new_text((9,), "dd")

        self.assert_raises(NoNode, (9,), live_page.try_out, failing)
        self.assertEqual(kept_by(live_page), before)
        stopped = KeyError("stop")

        def stopping(held):
            held.undo_last()
            raise stopped

        with self.assertRaises(KeyError) as caught:
            live_page.try_out(work=stopping)
        self.assertIs(caught.exception, stopped)
        self.assertEqual((kept_by(live_page), live_page.do_again()), (before, "mark_class"))

    def test_trials_within_one_another(self):
        live_page = live(page(["aa"]))
        depths = []

        def work(held):
            ahead = kept_by(held)
            held.put_node((0,), "x")
            depths.append(held.deeds_done())
            if len(depths) < 10:
                held.try_out(work)
            self.assertEqual(held.deeds_done(), ahead[3] + 1)
            held.undo_last()
            self.assertEqual(kept_by(held)[:4], ahead[:4])
            return None

        live_page.try_out(work)
        self.assertEqual(depths, list(range(1, 11)))
        self.assertEqual((live_page.deeds_done(), live_page.last_changes()), (0, NOTHING))

    def test_class_touches(self):
        sheet = [(0, [(None, ("b", ["k"], [], None))], {"ink": "r", "width": 5}, None), (0, [(None, ("c", [], [], None)), ("behind", (None, ["k"], [], None))], {"gap": 2}, (0, 9))]
        tree = Tree(("a", [], [("b", [], [("d", [], [])]), ("c", [], [("c", [], [])])]))
        live_page = Page(tree, Sheet(sheet), (5, 1))
        self.assertEqual(live_page.class_touches((0,), "k"), [((0,), "width"), ((0,), "ink"), ((0, 0), "ink"), ((1,), "gap")])
        live_page.mark_class((0,), "k")
        self.assertEqual(live_page.class_touches([0], "k"), [((0,), "width"), ((0,), "ink"), ((0, 0), "ink"), ((1,), "gap")])
        live_page.new_width((9, 1))
        self.assertEqual(live_page.class_touches((0,), "k"), [((0,), "width"), ((0,), "ink"), ((0, 0), "ink")])
        self.assertEqual(live_page.class_touches((), "k"), [])
        dice = Dice(132)
        for _ in range(60):
            design = some_design(dice, 4 + dice.throw(12), 3 + dice.throw(4), words=("width", "ink", "align", "gap", "size"))
            tree, sheet = design.own_tree(), design.own_sheet()
            path = dice.pick(tree.all_elements())
            other = tree.without_class(path, "k") if "k" in tree.node_at(path)[1] else tree.with_class(path, "k")
            rows = [all_worths(sheet, there, (7, 1)) for there in (tree, other)]
            touched = [(at, word) for at in rows[0] for word in WORTHS if rows[0][at].get(word) != rows[1][at].get(word)]
            found = Page(tree, sheet, (7, 1)).class_touches(path, "k")
            self.assertEqual(found, sorted(touched, key=lambda pair: (pair[0], list(rows[0][()]).index(pair[1]))))

    def test_class_touches_stand_at_places_that_are_reached(self):
        dice = Dice(133)
        for _ in range(15):
            rules = []
            for _ in range(3):
                steps = [(None, (dice.pick(["b", None]), dice.pick([[], ["k"]]), [], None))]
                if dice.throw(2):
                    steps.append((dice.pick(["child", "below", "next", "behind"]), (None, dice.pick([["k"], []]), [], None)))
                rules.append((0, steps, {dice.pick(["ink", "gap"]): dice.pick(["as-parent", "start"])} if dice.throw(3) == 0 else {"ink": "r", "gap": dice.throw(3)}, None))
            sheet = Sheet(rules)
            reached = reach_of(sheet, "k")
            tree = some_design(dice, 14, 0).own_tree()
            for path in tree.all_elements():
                for at, _ in Page(tree, sheet, (5, 1)).class_touches(path, "k"):
                    self.assertIn(where_from(path, at), reached)

    def test_two_hundred_deeds_on_a_page_at_the_limits(self):
        children = [("b", [], ["aa bb"]) for _ in range(58)]
        live_page = live(page(children, rule("b", show="block", pleft=("part", 3))), 100)
        self.assertEqual(len(live_page.layout_now()), 117)
        dice = Dice(134)
        for number in range(200):
            live_page.new_text((dice.throw(58), 0), dice.pick(["c", "dd e", "a b c d"]) + "x" * (number % 7 + 1))
            self.assertEqual(live_page.last_changes()["gone"], [])
        self.assertEqual(live_page.deeds_done(), 200)
        for _ in range(200):
            live_page.undo_last()
        self.assertEqual(live_page.tree_now().root_node()[2], tuple(("b", (), ("aa bb",)) for _ in range(58)))


def where_from(path, at):
    if at == path:
        return "own"
    if at[:len(path)] == path:
        return "inside"
    return "behind" if len(at) == len(path) else "beside"


if __name__ == "__main__":
    unittest.main()
