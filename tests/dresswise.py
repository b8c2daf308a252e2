"""Section 8 in the plainest way, and dressed trees that look thrown."""

from naive import some_node
from pagefall.dresses import Dressed
from pagefall.trees import Tree

SHOWS = ["block", "line", "line", "line", "row", "table", "none"]
DRESS = {"show": SHOWS, "side": ["none", "none", "left", "right"], "at": ["none", "none", "none", "none", (3, -4)]}
BLOCKS = ("block", "row", "table")


def some_dressed(dice, many):
    tree = Tree(some_node(dice, ["a", "b"], ["k"], many))
    texts = [path for path in tree.all_paths() if path not in tree.all_elements()]
    for path in texts:
        if dice.throw(3) == 0:
            tree = tree.with_text(path, dice.pick([" ", "   ", " a "]))
    rows = {path: {word: dice.pick(worths) for word, worths in DRESS.items()} for path in tree.all_elements() if dice.throw(4)}
    return Dressed(tree, rows)


class Plain:
    """A dressed tree, each question by what it says."""

    def __init__(self, dressed):
        self.dressed = dressed
        self.tree = dressed.own_tree()
        self.ways = {}
        self.shows = {}

    def worth(self, path, word):
        return self.dressed.worth_at(path, word)

    def is_element(self, path):
        return isinstance(self.tree.node_at(path), tuple)

    def children(self, path):
        return [path + (number,) for number in range(len(self.tree.node_at(path)[2]))]

    def is_gone(self, path):
        return path != () and (self.worth(path, "show") == "none" or self.is_gone(path[:-1]))

    def firmly_shown(self, path):
        """Row and table where shown so, else something else."""
        return self.way(path) if self.way(path) in ("strip", "cell") else self.worth(path, "show")

    def way(self, path):
        if path not in self.ways:
            self.ways[path] = self.way_anew(path)
        return self.ways[path]

    def way_anew(self, path):
        if path == ():
            return "root"
        if not self.is_element(path):
            return "flow"
        above = path[:-1]
        if self.is_gone(path):
            return "gone"
        if self.firmly_shown(above) == "table":
            return "strip"
        if self.way(above) == "strip":
            return "cell"
        if self.worth(path, "at") != "none":
            return "placed"
        if self.firmly_shown(above) == "row":
            return "item"
        return "flow" if self.worth(path, "side") == "none" else "float"

    def breaks(self, path):
        return any(self.is_flow_block(child) for child in self.children(path))

    def is_flow_block(self, path):
        return self.is_element(path) and self.way(path) == "flow" and self.shown(path) in BLOCKS

    def shown(self, path):
        if path not in self.shows:
            self.shows[path] = self.shown_anew(path)
        return self.shows[path]

    def shown_anew(self, path):
        way, show = self.way(path), self.worth(path, "show")
        if way == "gone":
            return "none"
        if way in ("strip", "cell") or show in BLOCKS:
            return way if way in ("strip", "cell") else show
        return "block" if way != "flow" or self.breaks(path) else "line"

    def run(self, paths):
        found = []
        for path in paths:
            if not self.is_element(path):
                found.append(("text", path))
            elif self.way(path) == "float":
                found.append(("float", path))
            elif self.shown(path) == "line":
                found.extend(self.run(self.children(path)))
        return found

    def is_bare(self, paths):
        return all(what == "text" and set(self.tree.node_at(path)) == {" "} for what, path in self.run(paths))

    def nameless(self, path, paths):
        if self.is_bare(paths):
            return []
        first = next(child for child in paths if not self.is_bare([child]))
        return [((path, first[-1] + 1), "lines", self.run(paths))]

    def box(self, path):
        shown = self.shown(path)
        children = self.children(path)
        if shown in ("table", "strip"):
            return ((path, 0), shown, [self.box(child) for child in children if self.way(child) in ("strip", "cell")])
        if shown == "row":
            boxed = [child for child in children if self.way(child) == "item"]
        else:
            boxed = [child for child in children if self.is_flow_block(child)]
            if not boxed:
                return ((path, 0), "lines", self.run(children))
        inner = []
        others = []
        for child in children + [None]:
            if child is None or child in boxed:
                inner.extend(self.nameless(path, others))
                others = []
            else:
                others.append(child)
            if child in boxed:
                inner.append(self.box(child))
        return ((path, 0), "row" if shown == "row" else "blocks", inner)

    def has_box(self, path):
        return self.is_element(path) and self.shown(path) not in ("none", "line")

    def outermost(self):
        """The boxes that stand in none."""
        paths = [path for path in self.tree.all_elements() if self.way(path) in ("root", "float", "placed")]
        return [self.box(path) for path in paths]

    def homes(self):
        """The dict from the paths of texts and floats to the ids of the boxes in whose runs they are."""
        found = {}
        for box in self.outermost():
            for part in boxes_in(box):
                if part[1] == "lines":
                    for what, path in part[2]:
                        assert (what, path) not in found
                        found[(what, path)] = part[0]
        return found


def boxes_in(box):
    """A box and all that stand in it."""
    found = [box]
    if box[1] != "lines":
        for part in box[2]:
            found.extend(boxes_in(part))
    return found
