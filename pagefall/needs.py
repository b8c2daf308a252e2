"""Needs and wishes of boxes: how wide they have to be, and how wide they need not be wider than."""

from pagefall.columns import Columns
from pagefall.kinds import is_integer
from pagefall.plans import Plan
from pagefall.refusals import NoBox
from pagefall.words import WordRows


def greatest_of(pairs):
    """The greatest need and the greatest wish."""
    return (max([need for need, _ in pairs], default=0), max([wish for _, wish in pairs], default=0))


def sums_of(pairs):
    return (sum([need for need, _ in pairs]), sum([wish for _, wish in pairs]))


def run_words(met):
    """The pair of the greatest width of a word, and the width of all words in one row."""
    if not met.words:
        return (0, 0)
    return (max([word.width for word in met.words]), WordRows(met.words).width_of(0, len(met.words)))


def cells_of(plan, path):
    """For each strip of a table the triples (path of a cell, first column, last column)."""
    strips = []
    for strip, _ in plan.parts[path]:
        row = []
        for cell, _ in plan.parts[strip]:
            first = row[-1][2] + 1 if row else 0
            row.append((cell, first, first + plan.worths(cell)["span"] - 1))
        strips.append(row)
    return strips


def taken_across(worths, words):
    """What integers among some margins and pads take."""
    return sum([worths[word] for word in words if is_integer(worths[word])])


class Wants:
    """The needs and wishes of all boxes of a plan, as pairs, and the columns of its tables.

    inner are those of what is in a box, outer with all that its element is told.
    """

    def __init__(self, plan):
        self.plan = plan
        self.inner = {}
        self.outer = {}
        self.strips = {}
        self.columns = {}
        self.pieces = {}
        # What stands in an element comes behind it in tree order.
        for path in plan.boxed[::-1]:
            pair = self.inner_pair(path)
            self.inner[(path, 0)] = pair
            self.outer[(path, 0)] = self.outer_pair(path, pair)

    def inner_pair(self, path):
        """The need and the wish of what is in the box of an element, whose inner ones are known."""
        kind = self.plan.kinds[path]
        if kind == "lines":
            return self.run_pair((path, 0))
        parts = self.plan.parts[path]
        for box in parts:
            if box[1] > 0:
                self.inner[box] = self.outer[box] = self.run_pair(box)
        pairs = [self.outer[box] for box in parts]
        if kind == "row":
            return self.row_pair(path, pairs)
        if kind == "table":
            return self.table_pair(path)
        return greatest_of(pairs) if kind == "blocks" else sums_of(pairs)

    def run_pair(self, box):
        run = self.plan.runs[box]
        pairs = [self.outer[(path, 0)] for path in run.floats]
        need, wish = run_words(run.met)
        return (max(need, greatest_of(pairs)[0]), wish + sums_of(pairs)[1])

    def row_pair(self, path, pairs):
        worths = self.plan.worths(path)
        gaps = worths["gap"] * max(0, len(pairs) - 1)
        need, wish = sums_of(pairs)
        return (greatest_of(pairs)[0] if worths["wrap"] == "yes" else need + gaps, wish + gaps)

    def table_pair(self, path):
        strips = cells_of(self.plan, path)
        self.strips[path] = strips
        many = max([row[-1][2] + 1 for row in strips if row], default=0)
        if many == 0:
            return (0, 0)
        cells = [(first, last) + self.outer[(cell, 0)] for row in strips for cell, first, last in row]
        columns = Columns(many, cells)
        self.columns[path] = columns
        top, bottom = columns.greatest_width()
        return (columns.least_width(), -(-top // bottom))

    def pieces_of(self, path):
        """The pieces of the widths of the columns of a table that has some."""
        if path not in self.pieces:
            self.pieces[path] = self.columns[path].all_pieces()
        return self.pieces[path]

    def outer_pair(self, path, pair):
        worths = self.plan.worths(path)
        if is_integer(worths["width"]):
            pair = (worths["width"], worths["width"])
        if worths["most"] != "none":
            pair = (min(pair[0], worths["most"]), min(pair[1], worths["most"]))
        pair = (max(pair[0], worths["least"]), max(pair[1], worths["least"]))
        words = ("pleft", "pright") if self.plan.way(path) == "cell" else ("mleft", "mright", "pleft", "pright")
        apart = taken_across(worths, words)
        return (pair[0] + apart, pair[1] + apart)


def pair_at(dressed, path):
    """The need and the wish of the box of an element."""
    path = dressed.own_tree().element_path(path)
    plan = Plan(dressed)
    if path not in plan.kinds:
        raise NoBox((path, 0))
    return Wants(plan).outer[(path, 0)]


def need_of(dressed, path):
    """The need of the box of an element."""
    return pair_at(dressed, path)[0]


def wish_of(dressed, path):
    """The wish of the box of an element."""
    return pair_at(dressed, path)[1]
