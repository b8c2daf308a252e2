"""How wide all boxes of a page are: rooms go down from the root, needs and wishes are known."""

from pagefall.across import WORDS, held_span, length_span, span_or_nought, spans_around, taken_by, width_across
from pagefall.flexing import flexed_sizes, whole_base
from pagefall.spans import NOUGHT, WIDTH, span_along, span_less, span_of, span_sum, sum_of_spans


class Asker:
    """What elements are told across, as spans; the one worth that is asked about, (path, word), is the unknown."""

    def __init__(self, plan, about):
        self.plan = plan
        self.about = about

    def length(self, path, word, room):
        """What a length comes to in a room, None for one that is not told."""
        if (path, word) == self.about:
            return WIDTH
        return length_span(self.plan.worths(path)[word], room)

    def lengths(self, path, room):
        """All that is told across, as spans_around takes it."""
        return [self.length(path, word, room) for word in WORDS]


class Breadths:
    """The widths in a page: by ids of boxes the room of what stands in one, its left pad, how wide it is with pads.

    lefts tells where a box begins, from the left end of what it stands in within the pads; of floats, until they are
    laid, how far it stands from the left end of all that it takes; outers tells how much that is. rows goes from paths
    to the lines of a row, lists of ids.
    """

    def __init__(self, wants, about, room, watch):
        self.wants = wants
        self.plan = wants.plan
        self.asker = Asker(self.plan, about)
        self.watch = watch
        self.rooms = {}
        self.pads = {}
        self.wides = {}
        self.lefts = {}
        self.outers = {}
        self.rows = {}
        self.take_block((), room)
        for path in self.plan.boxed:
            if self.plan.way(path) == "placed":
                self.take_placed(path)
            self.fill_box(path)

    def set_box(self, box, left, pads, width):
        """Keep where a box begins, its left and right pad, and the width within them."""
        self.lefts[box] = left
        self.pads[box] = pads[0]
        self.rooms[box] = width
        self.wides[box] = sum_of_spans([pads[0], width, pads[1]])

    def set_plain(self, box, left, width):
        """Keep where a box without pads begins, and how wide it is."""
        self.set_box(box, left, (NOUGHT, NOUGHT), width)

    def fill_box(self, path):
        """Find out how wide is what stands in a box."""
        kind = self.plan.kinds[path]
        room = self.rooms[(path, 0)]
        if kind == "lines":
            self.take_floats((path, 0))
        elif kind == "row":
            self.take_row(path, room)
        elif kind == "table":
            self.take_table(path, room)
        elif kind == "blocks":
            for box in self.plan.parts[path]:
                if box[1] > 0:
                    self.set_plain(box, NOUGHT, room)
                    self.take_floats(box)
                else:
                    self.take_block(box[0], room)

    def column_least(self, path):
        """The least width that the columns of a table let it have."""
        columns = self.wants.columns.get(path)
        return span_of(0 if columns is None else columns.least_width())

    def raised(self, path, width):
        """A width, of a table no less than its columns let it have."""
        if self.plan.kinds[path] != "table":
            return width
        return self.watch.greater_of(width, self.column_least(path))

    def block_width(self, path, spans, room):
        if self.plan.kinds[path] == "table" and spans[0] is None:
            columns = self.wants.columns.get(path)
            top, bottom = (0, 1) if columns is None else columns.greatest_width()
            rest = span_less(room, taken_by(spans))
            return self.raised(path, held_span(self.watch.lesser_of((top, 0, bottom), rest), spans, self.watch))
        return self.raised(path, width_across(spans, room, self.watch))

    def take_block(self, path, room):
        """Lay a block across a room."""
        spans = self.asker.lengths(path, room)
        width = self.block_width(path, spans, room)
        left, pleft, width, pright, _ = spans_around(spans, width, room, self.watch)
        self.set_box((path, 0), left, (pleft, pright), width)

    def take_placed(self, path):
        """Lay a placed one as a block in the room of its holder."""
        room = self.rooms[self.plan.holders[(path, 0)]]
        self.take_block(path, room)
        at = length_span(self.plan.worths(path)["at"][0], room)
        self.lefts[(path, 0)] = span_sum(at, self.lefts[(path, 0)])

    def take_floats(self, box):
        """Find out how wide the floats of a line block are."""
        room = self.rooms[box]
        for path in self.plan.runs[box].floats:
            spans = self.asker.lengths(path, room)
            width = spans[0]
            if width is None:
                need, wish = self.wants.inner[(path, 0)]
                width = self.watch.lesser_of(span_of(wish), span_less(room, taken_by(spans)))
                width = self.watch.greater_of(width, span_of(need))
            width = self.raised(path, held_span(width, spans, self.watch))
            self.outers[(path, 0)] = span_sum(taken_by(spans), width)
            self.set_box((path, 0), span_or_nought(spans[3]), spans[5:], width)

    def take_row(self, path, room):
        """Find out how wide the items of a row are, and on which lines they stand."""
        told = [self.item_told(box, room) for box in self.plan.parts[path]]
        lines = [told] if told else []
        if self.plan.worths(path)["wrap"] == "yes":
            lines = self.broken(path, told, room)
        self.rows[path] = []
        for line in lines:
            self.rows[path].append([box for box, _, _ in line])
            self.take_line(path, line, room)

    def item_told(self, box, room):
        """The triple (id, what it is told across, item) of what stands in a row; of a nameless one no spans."""
        path, number = box
        if number > 0:
            return (box, None, (span_of(self.wants.inner[box][1]), 0, 1, NOUGHT, None))
        spans = self.asker.lengths(path, room)
        _, least, most = spans[:3]
        base = self.asker.length(path, "base", room)
        if base is None:
            base = span_of(self.wants.inner[box][1]) if spans[0] is None else spans[0]
        if most is not None:
            most = self.watch.greater_of(most, least)
        worths = self.plan.worths(path)
        return (box, spans, (base, worths["grow"], worths["shrink"], least, most))

    def gaps_between(self, path, many):
        return span_of(self.plan.worths(path)["gap"] * (many - 1))

    def broken(self, path, told, room):
        """The lines of a row that wraps."""
        lines = []
        taken = NOUGHT
        gap = span_of(self.plan.worths(path)["gap"])
        for part in told:
            whole = span_sum(apart_of(part), whole_base(part[2], self.watch))
            more = sum_of_spans([taken, gap, whole])
            if lines and self.watch.is_upto(more, room):
                lines[-1].append(part)
                taken = more
            else:
                lines.append([part])
                taken = whole
        return lines

    def take_line(self, path, line, room):
        """Lay the items on one line of a row."""
        apart = span_sum(sum_of_spans([apart_of(part) for part in line]), self.gaps_between(path, len(line)))
        sizes = flexed_sizes([item for _, _, item in line], span_less(room, apart), self.watch)
        gap = span_of(self.plan.worths(path)["gap"])
        at = NOUGHT
        for (box, spans, _), size in zip(line, sizes):
            right = NOUGHT
            if spans is None:
                # In the nameless box of a row there are no floats.
                self.set_plain(box, at, size)
            else:
                size = self.raised(box[0], size)
                self.set_box(box, span_sum(at, span_or_nought(spans[3])), spans[5:], size)
                right = span_or_nought(spans[4])
            at = sum_of_spans([self.lefts[box], self.wides[box], right, gap])

    def take_table(self, path, room):
        """Lay strips and cells: strips are as wide as the table within its pads."""
        for box in self.plan.parts[path]:
            self.set_plain(box, NOUGHT, room)
        if path in self.wants.columns:
            lines = self.column_lines(path, room)
            for row in self.wants.strips[path]:
                for cell, first, last in row:
                    self.take_cell(cell, lines[first], span_less(lines[last + 1], lines[first]))

    def column_lines(self, path, room):
        """The places of the lines of a table that is so wide."""
        forms = []
        for _, high, forms in self.wants.pieces_of(path):
            if high is None or self.watch.is_upto(room, (high[0], 0, high[1])):
                break
        lines = [NOUGHT]
        for form in forms:
            lines.append(span_sum(lines[-1], span_along(form, room)))
        return lines

    def take_cell(self, path, left, distance):
        pleft = self.asker.length(path, "pleft", distance)
        pright = self.asker.length(path, "pright", distance)
        width = self.watch.greater_of(NOUGHT, span_less(distance, span_sum(pleft, pright)))
        self.set_box((path, 0), left, (pleft, pright), width)


def apart_of(part):
    """What margins and pads of an item take."""
    return NOUGHT if part[1] is None else taken_by(part[1])
