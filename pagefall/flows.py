"""How all nodes of a dressed tree stand, what is shown as what, and how the children of an element are parted."""

from pagefall.kinds import is_list

BLOCKS = ("block", "row", "table")
# How the children stand whose boxes are in one of these kinds.
BOXED_WAYS = {"row": "item", "table": "strip", "strip": "cell"}


def ways_in(dressed):
    """The dict from the paths of all elements to how they stand."""
    ways = {}
    for path in dressed.own_tree().all_elements():
        ways[path] = "root" if path == () else way_in(dressed, ways, path)
    return ways


def way_in(dressed, ways, path):
    """How an element that is not the root stands, those above being known."""
    above = ways[path[:-1]]
    if above == "gone" or dressed.worth_at(path, "show") == "none":
        return "gone"
    if above == "strip":
        return "cell"
    # A cell is shown as a cell, whatever else it is told.
    outer = None if above == "cell" else dressed.worth_at(path[:-1], "show")
    if outer == "table":
        return "strip"
    if dressed.worth_at(path, "at") != "none":
        return "placed"
    if outer == "row":
        return "item"
    return "flow" if dressed.worth_at(path, "side") == "none" else "float"


def shown_by(way, show, is_broken):
    """What an element is shown as."""
    if way == "gone":
        return "none"
    if way in ("strip", "cell"):
        return way
    if show in BLOCKS:
        return show
    return "line" if way == "flow" and not is_broken else "block"


class Flow:
    """How all nodes of a dressed tree stand: all_ways and shown, dicts from the paths of elements."""

    def __init__(self, dressed):
        self.tree = dressed.own_tree()
        self.all_ways = ways_in(dressed)
        self.shown = {}
        broken = {}
        for path in reversed(list(self.all_ways)):
            self.shown[path] = shown_by(self.all_ways[path], dressed.worth_at(path, "show"), path in broken)
            if self.is_block_in_flow(path):
                broken[path[:-1]] = True

    def is_element(self, path):
        return path in self.all_ways

    def is_block_in_flow(self, path):
        """Whether a node is an element in the flow that breaks what is around it."""
        return self.all_ways.get(path) == "flow" and self.shown[path] in BLOCKS

    def is_line(self, path):
        return self.shown.get(path) == "line"

    def has_box(self, path):
        """Whether a node has a box by itself."""
        return self.shown.get(path) not in (None, "none", "line")

    def children_of(self, path):
        """The paths of all children of a node."""
        node = self.tree.node_at(path)
        return [path + (number,) for number in range(len(node[2]))] if is_list(node) else []

    def kind_of(self, path):
        """The kind of the box of an element."""
        shown = self.shown[path]
        if shown in ("row", "table", "strip"):
            return shown
        return "blocks" if any([self.is_block_in_flow(child) for child in self.children_of(path)]) else "lines"

    def run_of(self, paths):
        """The run of some nodes: texts and floats among them and in their line ones, in tree order."""
        run = []
        waiting = paths[::-1]
        while waiting:
            path = waiting.pop()
            if not self.is_element(path):
                run.append(("text", path))
            elif self.all_ways[path] == "float":
                run.append(("float", path))
            elif self.is_line(path):
                waiting.extend(self.children_of(path)[::-1])
        return run

    def is_bare(self, run):
        """Whether a run has no float, and blanks alone, or nothing."""
        return all([what == "text" and self.tree.node_at(path).strip(" ") == "" for what, path in run])

    def is_boxed(self, path, kind):
        """Whether a child has a box that stands in that of its parent, which is of a kind."""
        if kind == "blocks":
            return self.is_block_in_flow(path)
        return self.all_ways.get(path) == BOXED_WAYS[kind]

    def parts_in(self, path):
        """What stands in the box of an element that is not of lines, in order.

        A part is (id, run, paths): of a nameless box its run and the children in its row, of any other one None and the
        one child.
        """
        kind = self.kind_of(path)
        parts = []
        others = []
        for child in self.children_of(path):
            if self.is_boxed(child, kind):
                parts.extend(self.nameless_parts(others, kind) + [((child, 0), None, [child])])
                others = []
            else:
                others.append(child)
        return parts + self.nameless_parts(others, kind)

    def nameless_parts(self, paths, kind):
        """The part that is the nameless box of a row of other children, in a list, if it has one."""
        run = [] if kind in ("table", "strip") else self.run_of(paths)
        if self.is_bare(run):
            return []
        first = [path for path in paths if not self.is_bare(self.run_of([path]))][0]
        return [((first[:-1], first[-1] + 1), run, paths)]
