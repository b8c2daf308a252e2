"""Wishes about one list of told boxes with forms: where on a stretch they are met."""

from pagefall.kinds import is_list, is_path, is_whole
from pagefall.spans import form_span, span_of, span_sum
from pagefall.stretches import stretches_where

# What stands behind the word of a wish: paths, numbers, a wish, or a list of wishes.
FORMS = {
    "high": ("number",), "lines": ("path", "number"), "wide": ("path", "number"), "within": ("path",),
    "left": ("path", "path"), "above": ("path", "path"), "over": ("path", "path"), "there": ("path",), "not": ("wish",),
    "all": ("list",), "any": ("list",),
}


def is_part(kind, thing):
    """Whether a thing is what a wish has there, but for wishes in it."""
    if kind == "number":
        return is_whole(thing)
    if kind == "path":
        return is_path(thing)
    return kind == "wish" or is_list(thing)


def is_wish_itself(thing):
    """Whether a thing is a wish, whatever the wishes in it are."""
    if not is_list(thing) or len(thing) == 0 or not isinstance(thing[0], str) or thing[0] not in FORMS:
        return False
    kinds = FORMS[thing[0]]
    return len(thing) == len(kinds) + 1 and all([is_part(kind, part) for kind, part in zip(kinds, thing[1:])])


def wishes_in(wish):
    """The wishes right within one."""
    if wish[0] == "not":
        return [wish[1]]
    return list(wish[1]) if wish[0] in ("all", "any") else []


class Sight:
    """The boxes of a ground, their x and ends as spans."""

    def __init__(self, ground):
        self.plan = ground.plan
        self.stretch = ground.stretch
        self.boxes = {box[0]: box for box in ground.boxes if box[1] != "text"}
        self.pieces = [box for box in ground.boxes if box[1] == "text"]

    def box_of(self, path):
        """The box of an element, None if it has none."""
        return self.boxes.get((tuple(path), 0))

    def sides(self, box):
        """The left and the right end of a box, as spans."""
        left = form_span(box[2])
        return (left, span_sum(left, form_span(box[4])))

    def holder_of(self, box):
        """The box in which a box or a piece of a text stands, None for the root's."""
        number = self.plan.holders.get(box[0][0] if box[1] == "text" else box[0])
        return None if number is None else self.boxes[number]

    def pairs(self):
        """All boxes and pieces of texts but the root's, each with the box in which it stands."""
        pairs = [(box, self.holder_of(box)) for box in list(self.boxes.values()) + self.pieces]
        return [pair for pair in pairs if pair[1] is not None]

    def holders_of(self, box):
        """The boxes in which one stands, and in which that one stands, and so on."""
        holders = []
        holder = self.holder_of(box)
        while holder is not None:
            holders.append(holder)
            holder = self.holder_of(holder)
        return holders

    def many_lines(self, box):
        """How many lines with words are in a line block: the pieces on each have one foot."""
        pieces = [piece for piece in self.pieces if self.plan.holders[piece[0][0]] == box[0]]
        return len(set([piece[3] + piece[5] for piece in pieces]))

    def where(self, work):
        """The stretches at which a function of a watch tells what is true."""
        return stretches_where(self.stretch, work)

    def where_if(self, is_so):
        return [self.stretch] if is_so else []


def is_inside(sight, box, holder, watch):
    """Whether a box begins and ends, from left to right, in another one."""
    left, right = sight.sides(box)
    outer_left, outer_right = sight.sides(holder)
    return watch.is_upto(outer_left, left) and watch.is_upto(right, outer_right)


def are_inside(sight, pairs, watch):
    """Whether the first box of each pair is in the other one."""
    # What need not be asked is not: each answer can end a stretch.
    for box, holder in pairs:
        if not is_inside(sight, box, holder, watch):
            return False
    return True


def is_over(sight, box, other, watch):
    """Whether two boxes have inner points in common."""
    if max(box[3], other[3]) >= min(box[3] + box[5], other[3] + other[5]):
        return False
    sides = [sight.sides(box), sight.sides(other)]
    return all([watch.is_under(left, right) for left, _ in sides for _, right in sides])


def where_single(sight, wish):
    """The stretches of a ground at which a wish without wishes in it is met."""
    word = wish[0]
    if word == "high":
        root = sight.box_of(())
        return sight.where_if(root[3] + root[5] <= wish[1])
    boxes = [sight.box_of(path) for path in wish[1:] if is_list(path)]
    if None in boxes:
        return []
    box = boxes[0]
    if word == "there":
        return sight.where_if(True)
    if word == "lines":
        return sight.where_if(box[1] == "lines" and sight.many_lines(box) <= wish[2])
    if word == "wide":
        return sight.where(lambda watch: watch.is_upto(span_of(wish[2]), form_span(box[4])))
    if word == "within":
        pairs = [(box, holder) for holder in sight.holders_of(box)]
        return sight.where(lambda watch: are_inside(sight, pairs, watch))
    other = boxes[1]
    if word == "above":
        return sight.where_if(box[3] + box[5] <= other[3])
    if word == "left":
        return sight.where(lambda watch: watch.is_upto(sight.sides(box)[1], sight.sides(other)[0]))
    return sight.where(lambda watch: is_over(sight, box, other, watch))
