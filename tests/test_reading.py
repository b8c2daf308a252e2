import unittest

from naive import Asserts, Dice, deep_node, some_node
from pagefall.errors import BadText
from pagefall.reading import read_tree, slips_of, write_tree
from pagefall.trees import Tree

PIECES = ["<a>", "</a>", "<b k>", "</b>", "<b k m k>", "</page>", "<page>", "x", "so", " ", "&", "<", ">", "</", "<a k", "k>",
          "<abcdefghi>", "<a  k>", "<a >", "<A>", "\n", "</b k>", "-"]


class ReadingTest(unittest.TestCase, Asserts):
    def inside(self, text):
        """What is in the root of a text that is read."""
        root = read_tree(text).root_node()
        self.assertEqual(root[:2], ("page", ()))
        return root[2]

    def test_example(self):
        text = "<b k>a<c>d</b>e&</x>"
        root = ("page", (), (("b", ("k",), ("a", ("c", (), ("d",)))), "e"))
        self.assertEqual(read_tree(text).root_node(), root)
        self.assertEqual(slips_of(text), [(6, "open"), (15, "sign"), (16, "end")])

    def test_plain(self):
        self.assertEqual(self.inside(""), ())
        self.assertEqual(slips_of(""), [])
        self.assertEqual(self.inside("so. 1-2"), ("so. 1-2",))
        self.assertEqual(self.inside("<a></a>"), (("a", (), ()),))
        self.assertEqual(self.inside("<a m k>x</a>y<a></a>"), (("a", ("k", "m"), ("x",)), "y", ("a", (), ())))
        self.assertEqual(slips_of("<a m k>x</a>y<a></a>"), [])

    def test_passed_over(self):
        self.assertEqual(self.inside("a&b\nC"), ("ab",))
        self.assertEqual(slips_of("a&b\nC"), [(1, "sign"), (3, "sign"), (4, "sign")])
        self.assertEqual(self.inside("a</x>b</page>c"), ("abc",))
        self.assertEqual(slips_of("a</x>b</page>c"), [(1, "end"), (6, "end")])
        self.assertEqual(self.inside("<"), ())
        self.assertEqual(self.inside("<a"), ("a",))
        self.assertEqual(self.inside("</a"), ("a",))
        self.assertEqual(slips_of("</a"), [(0, "sign"), (1, "sign")])
        self.assertEqual(self.inside("<<a>>x"), (("a", (), ("x",)),))
        self.assertEqual(slips_of("<<a>>x"), [(0, "sign"), (1, "open"), (4, "sign")])

    def test_no_marks(self):
        for mark in ("<abcdefghi>", "<a  k>", "<a k >", "< a>", "<a >", "<A>", "<a K>", "<a1>", "</a k>", "</ a>", "<a abcdefghi>",
                     "</abcdefghi>", "<>", "</>", "<a\nk>"):
            signs = "".join(sign for sign in mark if sign.islower() or sign in " 1")
            self.assertEqual(self.inside("<b>" + mark + "</b>"), (("b", (), (signs,) if signs else ()),), mark)
            self.assertEqual({what for _, what in slips_of(mark)}, {"sign"})
        self.assertEqual(self.inside("<abcdefgh ijklmnop></abcdefgh>"), (("abcdefgh", ("ijklmnop",), ()),))

    def test_classes_twice(self):
        self.assertEqual(self.inside("<a k m k k m></a>"), (("a", ("k", "m"), ()),))
        self.assertEqual(slips_of("<a k m k k m></a>"), [(0, "class")])
        self.assertEqual(slips_of("x<a k k>"), [(1, "class"), (1, "open")])

    def test_ends(self):
        self.assertEqual(self.inside("<a><b><a>x</b>y</a>z"), (("a", (), (("b", (), (("a", (), ("x",)),)), "y")), "z"))
        self.assertEqual(slips_of("<a><b><a>x</b>y</a>z"), [(6, "open")])
        self.assertEqual(self.inside("<a><a></a>x"), (("a", (), (("a", (), ()), "x")),))
        self.assertEqual(slips_of("<a><a></a>x"), [(0, "open")])
        self.assertEqual(self.inside("<page>x</page>y</page>"), (("page", (), ("x",)), "y"))
        self.assertEqual(slips_of("<page>x</page>y</page>"), [(15, "end")])

    def test_wrong_things(self):
        for thing in (None, 1, True, [], ["a"], ("a",), {}, b"a", Tree(("a", [], []))):
            self.assert_raises(BadText, 0, read_tree, thing)
            self.assert_raises(BadText, 0, slips_of, thing)

    def test_any_string(self):
        dice = Dice(3)
        for _ in range(400):
            text = "".join(dice.pick(PIECES) for _ in range(dice.throw(14)))
            tree = read_tree(text)
            self.assertEqual(tree, tree.joined_texts())
            slips = slips_of(text)
            self.assertEqual(slips, sorted(set(slips)))
            clean = write_tree(tree)
            self.assertEqual(slips_of(clean), [])
            self.assertEqual(read_tree(clean), tree)
            if slips == []:
                self.assertEqual(len(clean), len(text))

    def test_what_is_told_is_new(self):
        slips_of("&").clear()
        self.assertEqual(slips_of("&"), [(0, "sign")])


class WritingTest(unittest.TestCase):
    def test_written(self):
        self.assertEqual(write_tree(Tree(("page", [], ["x", ("b", ["m", "k"], ["y", ("c", [], [])])]))), "x<b k m>y<c></c></b>")
        self.assertEqual(write_tree(Tree(("page", ["k"], ["x"]))), "<page k>x</page>")
        self.assertEqual(write_tree(Tree(("a", [], ["x", "y"]))), "<a>xy</a>")
        self.assertEqual(write_tree(Tree(("page", [], []))), "")
        self.assertEqual(write_tree(Tree(("page", [], [("page", [], [])]))), "<page></page>")

    def test_there_and_back(self):
        dice = Dice(4)
        for _ in range(100):
            root = some_node(dice, ["a", "page"], ["k", "m"], 1 + dice.throw(25))
            tree = Tree(root)
            text = write_tree(tree)
            self.assertEqual(slips_of(text), [])
            bare = root[0] == "page" and root[1] == ()
            self.assertEqual(read_tree(text), (tree if bare else Tree(("page", [], [root]))).joined_texts())
            self.assertEqual(write_tree(read_tree(text)), text)


class LimitsTest(unittest.TestCase):
    def test_long_texts(self):
        self.assertEqual(read_tree("x&" * 3000).root_node()[2], ("x" * 3000,))
        self.assertEqual(len(slips_of("x&" * 3000)), 3000)
        self.assertEqual(slips_of("<" * 6000), [(k, "sign") for k in range(6000)])
        self.assertEqual(len(read_tree("<a k" * 1500)), 2)
        self.assertEqual(len(read_tree("<a></a>" * 199)), 200)
        many = "<a" + " k" * 2998 + ">"
        self.assertEqual(read_tree(many).root_node()[2], (("a", ("k",), ()),))
        self.assertEqual(len(slips_of("<a" + " k" * 2999)), 1)

    def test_deep_texts(self):
        deep = "<a k>" * 199 + "x" + "</a>" * 199
        self.assertEqual(write_tree(read_tree(deep)), deep)
        self.assertEqual(read_tree("<a k>" * 199), Tree(("page", [], [deep_node(199)])))
        self.assertEqual(slips_of("<a k>" * 199), [(5 * k, "open") for k in range(199)])
        self.assertEqual(slips_of("<a>" * 1000 + "</a>" * 750), [(3 * k, "open") for k in range(250)])


if __name__ == "__main__":
    unittest.main()
