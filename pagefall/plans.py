"""Plans: all of a dressed page that hangs on no width."""

from pagefall.flows import Flow
from pagefall.words import Met


class Run:
    """The run of a line block: paths of its texts and floats, sizes of its texts, and the words met in it."""

    def __init__(self, dressed, run):
        self.things = run
        self.floats = [path for what, path in run if what == "float"]
        # How wide and how high a float is shows when it is laid.
        told = [("left", 0, 0) if what == "float" else text_told(dressed, path) for what, path in run]
        self.sizes = [thing[0] for thing in told]
        self.met = Met(told)

    def text_at(self, index):
        return self.things[index][1]


def text_told(dressed, path):
    """A text as a run holds it: the size of the element whose child it is, and its signs."""
    return (dressed.row_at(path[:-1])["size"], dressed.own_tree().node_at(path))


class Plan:
    """How a dressed page stands; ids of boxes are pairs (path, number).

    boxed are the paths of the elements with boxes, in tree order; runs go from the ids of line blocks, parts from the
    paths of other boxed ones to the ids in their boxes; holders from ids, and from paths of texts, to the ids of the
    boxes in which they stand; order are the pairs (id, None) and (None, path of a text) in tree order.
    """

    def __init__(self, dressed):
        self.dressed = dressed
        self.flow = Flow(dressed)
        self.kinds = {}
        self.parts = {}
        self.runs = {}
        self.holders = {}
        self.boxed = [path for path in dressed.own_tree().all_elements() if self.flow.has_box(path)]
        for path in self.boxed:
            self.take_box(path)
        self.order = self.ordered()

    def worths(self, path):
        return self.dressed.row_at(path)

    def way(self, path):
        return self.flow.all_ways[path]

    def kind_of(self, box):
        return self.kinds[box[0]] if box[1] == 0 else "lines"

    def take_box(self, path):
        box = (path, 0)
        kind = self.flow.kind_of(path)
        self.kinds[path] = kind
        if self.way(path) == "placed":
            self.holders[box] = (self.boxed_above(path), 0)
        if kind == "lines":
            self.take_run(box, self.flow.run_of(self.flow.children_of(path)))
            return
        self.parts[path] = []
        for part, run, _ in self.flow.parts_in(path):
            self.parts[path].append(part)
            self.holders[part] = box
            if run is not None:
                self.take_run(part, run)

    def take_run(self, box, run):
        self.runs[box] = Run(self.dressed, run)
        for what, path in run:
            self.holders[(path, 0) if what == "float" else path] = box

    def boxed_above(self, path):
        """The path of the nearest element above one that has a box."""
        path = path[:-1]
        while path not in self.kinds:
            path = path[:-1]
        return path

    def ordered(self):
        """All ids, and paths of texts that are in runs, in tree order."""
        order = []
        waiting = [((), 0)]
        while waiting:
            path, number = waiting.pop()
            if number > 0:
                order.append(((path, number), None))
                continue
            if path in self.kinds:
                order.append(((path, 0), None))
            elif path in self.holders:
                order.append((None, path))
            for child in reversed(self.flow.children_of(path)):
                waiting.append((child, 0))
                if (path, child[-1] + 1) in self.holders:
                    waiting.append((path, child[-1] + 1))
        return order
