"""Wishes in the plainest way, at one width, and some that look thrown."""

from fractions import Fraction

from plainpage import PlainPage

SINGLE = ["high", "lines", "wide", "within", "left", "above", "over", "there", "wide", "within", "left", "over"]


class PlainWish:
    """A page at a width, asked whether wishes are met."""

    def __init__(self, design, width):
        self.page = PlainPage(design, width)
        self.boxes = self.page.layout()
        self.by_ids = {box[0]: box for box in self.boxes}

    def sides(self, box):
        return Fraction(*box[2]), Fraction(*box[2]) + Fraction(*box[4]), box[3], box[3] + box[5]

    def is_met(self, wish):
        if wish[0] == "not":
            return not self.is_met(wish[1])
        if wish[0] in ("all", "any"):
            met = [self.is_met(part) for part in wish[1]]
            return all(met) if wish[0] == "all" else any(met)
        if wish[0] == "high":
            return self.sides(self.boxes[0])[3] <= wish[1]
        boxes = [self.by_ids.get((tuple(path), 0)) for path in wish[1:] if not isinstance(path, int)]
        if any(box is None or box[1] == "text" for box in boxes):
            return False
        return getattr(self, wish[0])(boxes, wish[-1])

    def there(self, boxes, _):
        return True

    def lines(self, boxes, many):
        feet = {self.sides(box)[3] for box in self.boxes if box[1] == "text" and self.page.inside[box[0]] == boxes[0][0]}
        return boxes[0][1] == "lines" and len(feet) <= many

    def wide(self, boxes, number):
        return Fraction(*boxes[0][4]) >= number

    def within(self, boxes, _):
        low, high, _, _ = self.sides(boxes[0])
        holder = self.page.inside.get(boxes[0][0])
        while holder is not None:
            outer_low, outer_high, _, _ = self.sides(self.by_ids[holder])
            if low < outer_low or high > outer_high:
                return False
            holder = self.page.inside.get(holder)
        return True

    def left(self, boxes, _):
        return self.sides(boxes[0])[1] <= self.sides(boxes[1])[0]

    def above(self, boxes, _):
        return self.sides(boxes[0])[3] <= self.sides(boxes[1])[2]

    def over(self, boxes, _):
        one, other = self.sides(boxes[0]), self.sides(boxes[1])
        return max(one[0], other[0]) < min(one[1], other[1]) and max(one[2], other[2]) < min(one[3], other[3])


def some_wish(dice, paths, depth):
    word = dice.pick(SINGLE + (["not", "not", "all", "any"] if depth else []))
    if word == "high":
        return (word, dice.throw(60))
    if word == "lines":
        return (word, dice.pick(paths), dice.throw(3))
    if word == "wide":
        return (word, dice.pick(paths), dice.throw(40))
    if word in ("within", "there"):
        return (word, dice.pick(paths))
    if word in ("left", "above", "over"):
        return (word, dice.pick(paths), dice.pick(paths))
    if word == "not":
        return (word, some_wish(dice, paths, depth - 1))
    return (word, [some_wish(dice, paths, depth - 1) for _ in range(dice.throw(4))])
