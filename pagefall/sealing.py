"""What is outside an element, whatever texts stand in it.

To what is outside, an inside of texts is its wish and its height. So a text is tried that is wider than all else can
make good, and one of so many lines that it is higher than all beside it.
"""

from pagefall.designs import Design
from pagefall.layouts import depths_at, told_boxes
from pagefall.ratios import plus, sum_of
from pagefall.spans import span_worth

STILL = (0, 1)


def text_of(words):
    """The text of words of so many signs each."""
    return " ".join(["a" * many for many in words])


class Inside:
    """An element of a design at a width, tried with texts in the place of its children."""

    def __init__(self, design, width, path):
        self.design = design
        self.width = width
        self.path = path
        self.found = None
        self.empty = self.depths_with([])
        self.outside = self.boxes_outside(self.empty)
        self.plan = self.empty.plan
        self.size = self.plan.worths(path)["size"]

    def depths_with(self, texts):
        tree = self.design.own_tree().with_inside(self.path, texts)
        return depths_at(Design(tree, self.design.own_sheet()), self.width)

    def boxes_outside(self, depths):
        """The boxes of nodes that are neither the element nor within it."""
        many = len(self.path)
        return [box for box in told_boxes(depths) if box[0][0][:many] != self.path]

    def run_box(self, depths):
        """The id of the box in whose lines the text stands, None if it is nowhere."""
        return depths.plan.holders.get(self.path + (0,))

    def room_with(self, words):
        """Try a text; how many signs there is room for on its lines, None if it is nowhere."""
        depths = self.depths_with([text_of(words)])
        if self.found is None and self.boxes_outside(depths) != self.outside:
            self.found = ([], [text_of(words)])
        box = self.run_box(depths)
        if box is None:
            return None
        top, bottom = span_worth(depths.breadths.rooms[box], STILL)
        return top // (bottom * self.size)

    def items_around(self):
        """The paths of the items that the element is or stands in."""
        paths = [self.path[:depth] for depth in range(len(self.path) + 1)]
        return [path for path in paths if self.plan.way(path) == "item"]

    def height_beside(self):
        """The greatest height, with margins, of what stands beside an item that the element is or stands in."""
        heights = [0]
        for path in self.items_around():
            for box in self.plan.parts[path[:-1]]:
                if box != (path, 0):
                    heights.append(sum(self.empty.stack_row(box)))
        return max(heights)

    def widest(self):
        """So many signs that what else stands in rows cannot make good for more."""
        whole = self.width
        shrink = 1
        for path in self.items_around():
            breadths = self.empty.breadths
            row = path[:-1]
            room = breadths.rooms[(row, 0)]
            whole = plus(whole, span_worth(room, STILL))
            for box in self.plan.parts[row]:
                _, _, (base, _, rate, least, _) = breadths.item_told(box, room)
                shrink = max(shrink, rate)
                taken = [span_worth(span, STILL) for span in (base, least, breadths.wides[box])]
                whole = plus(whole, sum_of(taken))
        return 2 * shrink * (whole[0] // whole[1] + 1) // self.size + 2

    def try_high(self, room, widest):
        """Try a text of many lines in a room that does not grow with it."""
        word = room // 2 + 1
        many = max(self.height_beside() // (2 * self.size) + 2, widest // word + 1)
        self.room_with([word] * many)

    def try_all(self):
        """Try texts until one is felt outside."""
        widest = self.widest()
        room = self.room_with([widest])
        # Where the room grows with the text all stands on one line, and nothing can be higher.
        if room is not None and self.found is None and self.room_with([2 * widest]) == room:
            self.try_high(room, widest)


def unlike_insides(design, width, path):
    """Two lists of texts in the place of an element's children with which a box outside is unlike, or None."""
    inside = Inside(design, width, path)
    inside.try_all()
    return inside.found
