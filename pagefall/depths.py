"""How high all boxes of a page are and where they stand in one another, widths being known."""

from pagefall.layings import Laying
from pagefall.spans import span_of, span_sum
from pagefall.stacks import stack_of


class Piece:
    """The piece of a text on a line: where it begins in what is within the pads of its box, and how large it is."""

    def __init__(self, left, top, width, height):
        self.left = left
        self.top = top
        self.width = width
        self.height = height


class Depths:
    """The heights in a page: by ids of boxes how high one is with pads, and its top in what it stands in.

    pieces goes from paths of texts to their pieces, in order; lines from ids of line blocks to their lines, lists of
    words.
    """

    def __init__(self, breadths):
        self.breadths = breadths
        self.plan = breadths.plan
        self.heights = {}
        self.tops = {}
        self.pieces = {}
        self.lines = {}
        # What stands in a box comes behind it in tree order.
        for path in self.plan.boxed[::-1]:
            self.heights[(path, 0)] = self.whole_height(path)
        self.tops[((), 0)] = self.plan.worths(())["mtop"]

    def pads_above_below(self, path):
        worths = self.plan.worths(path)
        return (0, 0) if self.plan.kinds[path] == "strip" else (worths["ptop"], worths["pbottom"])

    def whole_height(self, path):
        inner = self.inner_height(path)
        worths = self.plan.worths(path)
        if worths["height"] != "auto" and self.plan.kinds[path] != "strip":
            inner = worths["height"]
        if self.plan.way(path) == "placed":
            self.tops[(path, 0)] = worths["at"][1] + worths["mtop"]
        return sum(self.pads_above_below(path)) + inner

    def inner_height(self, path):
        """How high what is in a box is; it is put there."""
        kind = self.plan.kinds[path]
        if kind == "lines":
            return self.put_lines((path, 0))
        if kind == "row":
            return self.put_items(path)
        parts = self.plan.parts[path]
        if kind == "strip":
            return self.put_cells(parts)
        if kind == "table":
            return self.put_stack(parts, [(0, self.heights[box], 0) for box in parts])
        for box in parts:
            if box[1] > 0:
                self.heights[box] = self.put_lines(box)
        return self.put_stack(parts, [self.stack_row(box) for box in parts])

    def stack_row(self, box):
        """The upper margin, the height and the lower margin of a box that stands in another one."""
        if box[1] > 0:
            return (0, self.heights[box], 0)
        worths = self.plan.worths(box[0])
        return (worths["mtop"], self.heights[box], worths["mbottom"])

    def put_stack(self, boxes, rows):
        begins, whole = stack_of(rows)
        for box, begin in zip(boxes, begins):
            self.tops[box] = begin
        return whole

    def put_cells(self, boxes):
        """Put the cells of a strip, all as high as the highest one."""
        height = max([self.heights[box] for box in boxes], default=0)
        for box in boxes:
            self.heights[box] = height
            self.tops[box] = 0
        return height

    def put_items(self, path):
        """Put the items of a row, line by line."""
        gap = self.plan.worths(path)["gap"]
        foot = 0
        for number, line in enumerate(self.breadths.rows[path]):
            top = foot + gap if number > 0 else 0
            foot = top
            for box in line:
                if box[1] > 0:
                    self.heights[box] = self.put_lines(box)
                upper, height, lower = self.stack_row(box)
                self.tops[box] = top + upper
                foot = max(foot, top + upper + height + lower)
        return foot

    def put_lines(self, box):
        """Put the floats and the pieces of texts of a line block."""
        run = self.plan.runs[box]
        laying = Laying(run.met, self.floats_in(run), self.breadths.rooms[box], self.breadths.watch)
        for path, put in zip(run.floats, laying.puts):
            inner = (path, 0)
            left = put.left_in(laying.room)
            self.breadths.lefts[inner] = span_sum(left, self.breadths.lefts[inner])
            self.tops[inner] = put.top + self.plan.worths(path)["mtop"]
        align = self.plan.worths(box[0])["align"]
        self.lines[box] = []
        for line in laying.lines:
            self.lines[box].append([word.as_read() for word in run.met.words[line.first:line.upto]])
            self.put_pieces(run, laying, line, laying.line_left(line, align))
        return laying.whole_height()

    def floats_in(self, run):
        """The floats of a run, as they are laid: with their margins."""
        floats = []
        for path in run.floats:
            worths = self.plan.worths(path)
            height = sum(self.stack_row((path, 0)))
            floats.append((worths["side"], self.breadths.outers[(path, 0)], height))
        return floats

    def put_pieces(self, run, laying, line, left):
        """Put the pieces of texts on a line that begins so far from the left."""
        ends = {}
        for number in range(line.first, line.upto):
            begin = laying.rows.width_of(line.first, number + 1) - run.met.words[number].width
            for index, low, high in run.met.words[number].parts:
                first, _ = ends.get(index, (begin + low, 0))
                ends[index] = (first, begin + high)
        foot = line.top + line.height
        for index, (first, last) in ends.items():
            height = 2 * run.sizes[index]
            piece = Piece(span_sum(left, span_of(first)), foot - height, last - first, height)
            self.pieces.setdefault(run.text_at(index), []).append(piece)
