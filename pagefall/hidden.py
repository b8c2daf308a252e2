"""At which page widths an element is not seen."""

from pagefall.painting import painted_shapes
from pagefall.spans import form_span, span_sum
from pagefall.stretches import joined_stretches, stretches_where
from pagefall.unrolled import unrolled_page


class Veil:
    """A shape of a ground and the ones that are painted later: their lefts and rights are spans."""

    def __init__(self, shape, later):
        self.sides = sides_of(shape)
        self.later = [sides_of(other) for other in later]
        _, top, _, foot = self.sides
        edges = [edge for _, low, _, high in self.later for edge in (low, high) if top < edge < foot]
        self.edges = sorted(set([top, foot] + edges))

    def over(self, top, foot):
        """The lefts and rights of those that hold all heights between two neighbouring edges."""
        return [(left, right) for left, low, right, high in self.later if low <= top and foot <= high]

    def slabs(self):
        """The lefts and rights of those over each slab between edges."""
        return [self.over(self.edges[at], self.edges[at + 1]) for at in range(len(self.edges) - 1)]

    def is_closed(self, watch):
        """Whether the shape holds no point, or all that it holds is held by the others."""
        left, _, right, _ = self.sides
        # Without a width it holds no point; without a height it has no slab.
        return watch.is_upto(right, left) or all_closed(left, right, self.slabs(), watch)


def sides_of(shape):
    """Left, top, right and foot of a shape whose left and width are forms."""
    _, left, top, width, height, _ = shape
    start = form_span(left)
    return (start, top, span_sum(start, form_span(width)), top + height)


def all_closed(left, right, slabs, watch):
    """Whether over each slab all from left to right is held by runs."""
    for runs in slabs:
        if not is_chained(left, right, runs, watch):
            return False
    return True


def is_chained(left, right, runs, watch):
    """Whether runs hold all from left to right: a chain of them, each beginning at most where the one ahead ends.

    It is looked for by answers on which nothing hangs, and shown by those that are kept.
    """
    reach = left
    while not watch.seems_upto(right, reach):
        run = farthest_run(reach, runs, watch)
        if run is None:
            return show_gap(left, right, reach, runs, watch)
        watch.is_upto(run[0], reach)
        reach = run[1]
    return watch.is_upto(right, reach)


def farthest_run(reach, runs, watch):
    """The run that holds a place and what is right behind it, and goes the farthest, or None."""
    best = None
    for run in runs:
        if watch.seems_upto(run[0], reach) and not watch.seems_upto(run[1], reach):
            if best is None or not watch.seems_upto(run[1], best[1]):
                best = run
    return best


def show_gap(left, right, reach, runs, watch):
    """Show that a place between left and right is held by no run; always False."""
    watch.is_upto(left, reach)
    watch.is_upto(right, reach)
    for start, end in runs:
        if watch.seems_upto(end, reach):
            watch.is_upto(end, reach)
        else:
            watch.is_upto(start, reach)
    return False


def where_hidden(ground, path):
    """The stretches of a ground at which an element is not seen."""
    shapes = painted_shapes(ground.plan, ground.boxes)
    found = [at for at, shape in enumerate(shapes) if shape[0] == path]
    if not found or shapes[found[0]][5] is None:
        return [ground.stretch]
    later = [shape for shape in shapes[found[0] + 1:] if shape[5] is not None]
    veil = Veil(shapes[found[0]], later)
    return stretches_where(ground.stretch, veil.is_closed)


def hidden_widths(design, path):
    """The stretches of the widths at which an element has no box, or one that paints nothing or is covered."""
    path = design.own_tree().element_path(path)
    grounds = unrolled_page(design).grounds
    return joined_stretches([stretch for ground in grounds for stretch in where_hidden(ground, path)])
