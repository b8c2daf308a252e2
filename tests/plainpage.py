"""Sections 12.1, 12.7, 13.8 and 15 in the plainest way, box by box at one width, and designs that look thrown."""

from fractions import Fraction

from dresswise import Plain
from naive import some_node
from pagefall.columns import Columns
from pagefall.designs import Design
from pagefall.dresses import Dressed
from pagefall.rows import Row
from pagefall.sheets import Sheet
from pagefall.trees import Tree
from pagefall.worths import all_worths
from runwise import PlainLaying, plain_words, row_width

ZERO = Fraction(0)


def told(number):
    number = Fraction(number)
    return (number.numerator, number.denominator)


def moved(entries, x, y):
    return [(name, kind, left + x, top + y, width, height) for name, kind, left, top, width, height in entries]


def number_of(worth):
    return worth if isinstance(worth, int) else 0


class PlainPage:
    """A design at a width: layout() are the boxes, as the document tells them."""

    def __init__(self, design, width):
        self.tree = design.own_tree()
        self.dressed = Dressed(self.tree, all_worths(design.own_sheet(), self.tree, width))
        self.plain = Plain(self.dressed)
        self.width = Fraction(*width)
        self.inside = {}

    def worth(self, path, word):
        return self.dressed.worth_at(path, word)

    # Needs and wishes.

    def run_things(self, run):
        return [(self.worth(path[:-1], "size"), self.tree.node_at(path)) for what, path in run if what == "text"]

    def run_pair(self, run):
        words, _ = plain_words(self.run_things(run))
        floats = [self.outer_pair(path) for what, path in run if what == "float"]
        need = max([word[1] for word in words] + [pair[0] for pair in floats] + [0])
        wish = (row_width(words, 0, len(words)) if words else 0) + sum(pair[1] for pair in floats)
        return need, wish

    def part_pair(self, box):
        return self.run_pair(box[2]) if box[0][1] > 0 else self.outer_pair(box[0][0])

    def columns_of(self, box):
        """The columns of a table, and its cells, strip by strip, as (box, first, last)."""
        strips = []
        cells = []
        for strip in box[2]:
            row = []
            at = 0
            for cell in strip[2]:
                span = self.worth(cell[0][0], "span")
                row.append((cell, at, at + span - 1))
                cells.append((at, at + span - 1) + self.outer_pair(cell[0][0]))
                at += span
            strips.append(row)
        many = max([row[-1][2] + 1 for row in strips if row], default=0)
        return (Columns(many, cells) if many else None), strips

    def inner_pair(self, box):
        path, kind = box[0][0], box[1]
        if kind == "lines":
            return self.run_pair(box[2])
        pairs = [self.part_pair(part) for part in box[2]]
        needs, wishes = [need for need, _ in pairs], [wish for _, wish in pairs]
        if kind == "blocks":
            return max(needs), max(wishes)
        if kind == "strip":
            return sum(needs), sum(wishes)
        if kind == "row":
            gaps = self.worth(path, "gap") * max(0, len(pairs) - 1)
            return (max(needs, default=0) if self.worth(path, "wrap") == "yes" else sum(needs) + gaps), sum(wishes) + gaps
        columns, _ = self.columns_of(box)
        if columns is None:
            return 0, 0
        greatest = Fraction(*columns.greatest_width())
        return columns.least_width(), -(-greatest.numerator // greatest.denominator)

    def held(self, path, number):
        most = self.worth(path, "most")
        if most != "none":
            number = min(number, most)
        return max(number, self.worth(path, "least"))

    def outer_pair(self, path):
        pair = self.inner_pair(self.plain.box(path))
        if isinstance(self.worth(path, "width"), int):
            pair = (self.worth(path, "width"),) * 2
        pair = tuple(self.held(path, number) for number in pair)
        words = ["pleft", "pright"] + ([] if self.plain.way(path) == "cell" else ["mleft", "mright"])
        apart = sum(number_of(self.worth(path, word)) for word in words)
        return pair[0] + apart, pair[1] + apart

    # Widths.

    def length(self, path, word, room):
        """A length in a room, None for auto."""
        worth = self.worth(path, word)
        if isinstance(worth, tuple):
            return Fraction(worth[1], 100) * room
        return None if worth == "auto" else Fraction(worth)

    def sides(self, path, room):
        """Left margin, left pad, right pad, right margin, auto ones 0."""
        return [self.length(path, word, room) or ZERO for word in ("mleft", "pleft", "pright", "mright")]

    def least_of(self, path):
        box = self.plain.box(path)
        return self.columns_of(box)[0].least_width() if box[1] == "table" and self.columns_of(box)[0] else 0

    def across(self, path, room):
        """Left margin, left pad, width, right pad of a block in a room."""
        mleft, pleft, pright, mright = self.sides(path, room)
        rest = room - mleft - pleft - pright - mright
        width = self.length(path, "width", room)
        if width is None:
            width = rest
            if self.plain.box(path)[1] == "table":
                columns, _ = self.columns_of(self.plain.box(path))
                width = min(Fraction(*columns.greatest_width()) if columns else ZERO, rest)
        width = self.held(path, width)
        width = max(width, self.least_of(path))
        over = rest - width
        if over > 0 and self.worth(path, "mleft") == "auto":
            mleft = over / 2 if self.worth(path, "mright") == "auto" else over
        return mleft, pleft, width, pright

    def float_width(self, path, room):
        width = self.length(path, "width", room)
        if width is None:
            need, wish = self.inner_pair(self.plain.box(path))
            width = max(min(self.held(path, wish), room - sum(self.sides(path, room))), self.held(path, need))
        return max(self.held(path, width), self.least_of(path))

    # Boxes: lists of (id, kind, x, y, width, height), from the corner of what they are in.

    def layout(self):
        mleft, pleft, width, pright = self.across((), self.width)
        entries = self.whole((), width, pleft, pright)
        entries = moved(entries, mleft, self.worth((), "mtop"))
        by_ids = {entry[0]: entry for entry in entries}
        assert len(by_ids) == len(entries)
        order = [by_ids.pop(name) for name in self.walk((), list(by_ids))]
        assert by_ids == {}
        return [(name, kind, told(x), y, told(wide), height) for name, kind, x, y, wide, height in order]

    def walk(self, path, names):
        found = []
        if not self.plain.is_element(path):
            return sorted(name for name in names if name[0] == path)
        if (path, 0) in names:
            found.append((path, 0))
        for child in self.plain.children(path):
            if (path, child[-1] + 1) in names:
                found.append((path, child[-1] + 1))
            found.extend(self.walk(child, names))
        return found

    def whole(self, path, width, pleft, pright, height=None):
        """The box of an element and all in it, from its own corner on."""
        box = self.plain.box(path)
        inner, inside = self.content(box, width)
        for entry in inner:
            self.inside.setdefault(entry[0], (path, 0))
        ptop, pbottom = self.worth(path, "ptop"), self.worth(path, "pbottom")
        if self.worth(path, "height") != "auto":
            inside = self.worth(path, "height")
        if height is None:
            height = inside + ptop + pbottom
        for placed in self.placed_in(path):
            mleft, left, wide, right = self.across(placed, width)
            at, down = self.worth(placed, "at")
            x = Fraction(at[1], 100) * width if isinstance(at, tuple) else at
            entries = self.whole(placed, wide, left, right)
            self.inside[(placed, 0)] = (path, 0)
            inner = inner + moved(entries, x + mleft, down + self.worth(placed, "mtop"))
        return [((path, 0), box[1], ZERO, 0, pleft + width + pright, height)] + moved(inner, pleft, ptop)

    def placed_in(self, path):
        found = []
        for other in self.tree.all_elements():
            if self.plain.way(other) == "placed":
                above = other[:-1]
                while not self.plain.has_box(above):
                    above = above[:-1]
                if above == path:
                    found.append(other)
        return found

    def content(self, box, width):
        """What is in a box of a width, from the corner within its pads on, and how high it is."""
        if box[1] == "lines":
            return self.lines(box[0], box[2], width)
        return getattr(self, box[1])(box, width)

    def nameless(self, box, width):
        inner, height = self.lines(box[0], box[2], width)
        return [(box[0], "lines", ZERO, 0, width, height)] + inner, height

    def blocks(self, box, width):
        entries = []
        foot, lower = 0, 0
        for part in box[2]:
            path, number = part[0]
            if number > 0:
                inner, height = self.nameless(part, width)
                foot += max(lower, 0)
                entries.extend(moved(inner, 0, foot))
                foot, lower = foot + height, 0
                continue
            mleft, pleft, wide, pright = self.across(path, width)
            inner = self.whole(path, wide, pleft, pright)
            foot += max(lower, self.worth(path, "mtop"))
            entries.extend(moved(inner, mleft, foot))
            foot, lower = foot + inner[0][5], self.worth(path, "mbottom")
        return entries, foot + lower

    def item(self, part, room):
        path, number = part[0]
        if number > 0:
            return (Fraction(self.run_pair(part[2])[1]), 0, 1, 0, None), [ZERO] * 4
        base = self.length(path, "base", room)
        if base is None:
            base = self.length(path, "width", room)
        if base is None:
            base = Fraction(self.inner_pair(part)[1])
        least, most = self.worth(path, "least"), self.worth(path, "most")
        most = None if most == "none" else max(least, most)
        return (base, self.worth(path, "grow"), self.worth(path, "shrink"), least, most), self.sides(path, room)

    def row(self, box, width):
        gap = self.worth(box[0][0], "gap")
        parts = [(part,) + self.item(part, width) for part in box[2]]
        lines = [parts] if parts else []
        if parts and self.worth(box[0][0], "wrap") == "yes":
            lines = [[]]
            for part in parts:
                whole = sum(self.size_there(other) for other in lines[-1] + [part]) + gap * len(lines[-1])
                if lines[-1] and whole > width:
                    lines.append([])
                lines[-1].append(part)
        entries = []
        foot = 0
        for number, line in enumerate(lines):
            foot += gap if number else 0
            inner, height = self.row_line(line, gap, width)
            entries.extend(moved(inner, 0, foot))
            foot += height
        return entries, foot

    def size_there(self, part):
        """How much an item takes at level 0, with margins and pads."""
        base, _, _, least, most = part[1]
        size = max(base, least)
        return (size if most is None else min(size, most)) + sum(part[2])

    def sizes(self, items, total):
        """The sizes of a row, in a room that may be below 0."""
        row = Row([(told(item[0]),) + item[1:] for item in items])
        if total < 0:
            return [Fraction(*size) for size in row.sizes_at((0, 1))] if sum(Fraction(*size) for size in row.sizes_at((0, 1))) == 0 \
                else self.lowest(items)
        return [Fraction(*size) for size in row.sizes_at(told(total))]

    def lowest(self, items):
        lows = []
        for base, _, shrink, least, most in items:
            size = Fraction(least) if shrink else max(base, least)
            lows.append(size if most is None else min(size, most))
        return lows

    def row_line(self, line, gap, width):
        apart = sum(sum(part[2]) for part in line) + gap * (len(line) - 1)
        sizes = self.sizes([part[1] for part in line], width - apart)
        entries = []
        height = 0
        x = ZERO
        for (part, _, (mleft, pleft, pright, mright)), size in zip(line, sizes):
            path, number = part[0]
            upper, lower = (0, 0) if number else (self.worth(path, "mtop"), self.worth(path, "mbottom"))
            if number:
                inner, high = self.nameless(part, size)
            else:
                size = max(size, self.least_of(path))
                inner = self.whole(path, size, pleft, pright)
                high = inner[0][5]
            entries.extend(moved(inner, x + mleft, upper))
            height = max(height, upper + high + lower)
            x += mleft + pleft + size + pright + mright + gap
        return entries, height

    def table(self, box, width):
        columns, strips = self.columns_of(box)
        entries = []
        y = 0
        for strip, row in zip(box[2], strips):
            lines = [Fraction(*place) for place in columns.told_lines(told(width))] if columns else []
            height = 0
            cells = []
            for cell, first, last in row:
                distance = lines[last + 1] - lines[first]
                pleft = self.length(cell[0][0], "pleft", distance)
                pright = self.length(cell[0][0], "pright", distance)
                cells.append((cell[0][0], lines[first], max(ZERO, distance - pleft - pright), pleft, pright))
                height = max(height, self.whole(*self.without_x(cells[-1]))[0][5])
            entries.append((strip[0], "strip", ZERO, y, width, height))
            for cell in cells:
                inner = self.whole(*self.without_x(cell), height)
                for entry in inner:
                    self.inside.setdefault(entry[0], strip[0])
                entries.extend(moved(inner, cell[1], y))
            y += height
        return entries, y

    def without_x(self, cell):
        return cell[:1] + cell[2:]

    def lines(self, box, run, width):
        align = self.worth(box[0], "align")
        things = []
        boxes = []
        for what, path in run:
            if what == "text":
                things.append((self.worth(path[:-1], "size"), self.tree.node_at(path)))
                continue
            wide = self.float_width(path, width)
            mleft, pleft, pright, mright = self.sides(path, width)
            inner = self.whole(path, wide, pleft, pright)
            upper = self.worth(path, "mtop")
            height = upper + inner[0][5] + self.worth(path, "mbottom")
            things.append((self.worth(path, "side"), mleft + pleft + wide + pright + mright, height))
            boxes.append(moved(inner, mleft, upper))
        laying = PlainLaying(things, width)
        entries = []
        for inner, put in zip(boxes, laying.floats):
            entries.extend(moved(inner, put["left"], put["top"]))
        words, _ = plain_words(things)
        numbers = {}
        for (first, upto, left, right, top, wide, height), (_, _, begin, _, _, _) in zip(laying.lines, laying.lines_told(align)):
            ends = self.ends_of(things, words, first, upto)
            for index, (low, high) in ends.items():
                path = run[index][1]
                number = numbers.get(path, 0)
                numbers[path] = number + 1
                size = things[index][0]
                entries.append(((path, number), "text", Fraction(*begin) + low, top + height - 2 * size, Fraction(high - low), 2 * size))
        for entry in entries:
            self.inside.setdefault(entry[0], box)
        return entries, laying.whole_height()

    def ends_of(self, things, words, first, upto):
        """From texts (their indexes) to where their first sign on a line begins and their last one ends."""
        ends = {}
        x = 0
        for number in range(first, upto):
            x += words[number][3] if number > first else 0
            index, sign = words[number][0]
            left = words[number][1]
            while left > 0:
                if len(things[index]) == 3 or sign == len(things[index][1]):
                    index, sign = index + 1, 0
                    continue
                size = things[index][0]
                ends.setdefault(index, [x, x])
                x += size
                left -= size
                ends[index][1] = x
                sign += 1
        return {index: tuple(pair) for index, pair in ends.items()}

    def sticking(self):
        boxes = self.layout()
        by_ids = {box[0]: box for box in boxes}
        found = []
        for name, _, x, _, width, _ in boxes:
            if name in self.inside:
                _, _, left, _, wide, _ = by_ids[self.inside[name]]
                if Fraction(*x) < Fraction(*left) or Fraction(*x) + Fraction(*width) > Fraction(*left) + Fraction(*wide):
                    found.append(name)
        return found


LENGTHS = ["auto", 0, 3, 7, 20, ("part", 30), ("part", 50), ("part", 100)]
WORTHS = {
    "show": ["block", "block", "line", "row", "table", "none"], "side": ["none", "none", "left", "right"],
    "width": ["auto", "auto"] + LENGTHS, "base": ["auto", "auto"] + LENGTHS, "height": ["auto", "auto", "auto", 0, 9],
    "least": [0, 0, 2, 11], "most": ["none", "none", 6, 25], "mleft": [0, "auto"] + LENGTHS, "mright": [0, "auto"] + LENGTHS,
    "pleft": [0, 0, 1, ("part", 10)], "pright": [0, 0, 2, ("part", 20)], "mtop": [0, 2, 5], "mbottom": [0, 3], "ptop": [0, 1],
    "pbottom": [0, 2], "grow": [0, 1, 3], "gap": [0, 2], "shrink": [0, 1, 2], "span": [1, 1, 2], "wrap": ["no", "yes"],
    "size": [1, 1, 2, 3], "align": ["left", "mid", "right"], "at": ["none"] * 5 + [(2, -3), (("part", 40), 4)],
    "layer": [0, 0, 1, -1, 2], "fill": ["none", "a", "b"], "ink": ["x", "y"],
}
NAMES = ["a", "b", "c", "d"]


def some_texts(dice, node):
    """The node with texts that have more words."""
    if isinstance(node, str):
        return dice.pick(["aa", "b cc", "a bbb c", " ", "ccc ", " a", "a b c d"])
    return (node[0], node[1], tuple(some_texts(dice, child) for child in node[2]))


def some_sheet(dice, words, rules, ends=()):
    """A sheet of rules for names and classes, each of a few declarations; some hold between ends."""
    made = [(0, [(None, (None, [], [], None))], {"size": 1}, None)]
    for _ in range(rules):
        simple = (dice.pick(NAMES + [None]), dice.pick([[], [], ["k"]]), [], dice.pick([None, None, (2, 0), (3, 1)]))
        declarations = {}
        for _ in range(1 + dice.throw(4)):
            word = dice.pick(words)
            declarations[word] = dice.pick(WORTHS[word])
        condition = None
        if ends and dice.throw(3) == 0:
            low = dice.pick(list(ends))
            condition = (low, dice.pick([None, low + 1 + dice.throw(9)]))
        made.append((0, [(None, simple)], declarations, condition))
    return Sheet(made)


def some_design(dice, many, rules, words=tuple(WORTHS), ends=()):
    node = some_texts(dice, some_node(dice, NAMES, ["k"], many))
    return Design(Tree(node), some_sheet(dice, words, rules, ends))
