"""Shapes of boxes, and the least trees that have them."""

from pagefall.boxes import box_in
from pagefall.dresses import Dressed
from pagefall.flows import Flow
from pagefall.refusals import BadKinds
from pagefall.trees import Tree

# What may stand in a box of each kind; a nameless one in a row has nothing in it.
OUTER = ("blocks", "lines", "row", "table")
INNER = {
    "blocks": ("blocks", "lines", "row", "table", "nameless"), "row": ("blocks", "lines", "row", "table", "nameless"),
    "lines": ("blocks", "lines", "row", "table"), "nameless": ("blocks", "lines", "row", "table"),
    "table": ("strip",), "strip": ("blocks", "lines"),
}
SHOWS = {"blocks": "block", "lines": "block", "row": "row", "table": "table", "strip": "block"}


def shape_in(flow, box):
    """The shape of a box."""
    (_, number), kind, inner = box
    if kind == "lines":
        inner = [box_in(flow, path) for what, path in inner if what == "float"]
    return ("nameless" if number > 0 else kind, tuple([shape_in(flow, part) for part in inner]))


def shape_of(dressed):
    """The shape of the root's box."""
    flow = Flow(dressed)
    return shape_in(flow, box_in(flow, ()))


def is_pair_of_kind(thing):
    """Whether a thing is a pair of a kind and a tuple."""
    if not isinstance(thing, tuple) or len(thing) != 2 or not isinstance(thing[0], str):
        return False
    return thing[0] in INNER and isinstance(thing[1], tuple)


def is_filled_rightly(kind, inner):
    """Whether a box of a kind can hold boxes with such shapes, whatever is in them."""
    kinds = [part[0] for part in inner]
    if any([part not in INNER[kind] for part in kinds]):
        return False
    if any([kinds[at] == "nameless" and kinds[at - 1] == "nameless" for at in range(1, len(kinds))]):
        return False
    if kind == "row":
        return all([part[0] != "nameless" or part[1] == () for part in inner])
    return kind != "blocks" or any([part != "nameless" for part in kinds])


def is_shape(thing):
    """Whether a thing is the shape of some dressed tree."""
    if not is_pair_of_kind(thing) or thing[0] not in OUTER:
        return False
    # Things that are refused may be nested deeper than calls can be.
    waiting = [thing]
    while waiting:
        kind, inner = waiting.pop()
        if not all([is_pair_of_kind(part) for part in inner]) or not is_filled_rightly(kind, inner):
            return False
        waiting.extend(inner)
    return True


def put_in(shapes, path, is_run, rows):
    """The nodes that have such boxes, the first one at a path; rows get what they are told."""
    nodes = []
    for shape in shapes:
        kind, inner = shape
        at = path[:-1] + (path[-1] + len(nodes),)
        if kind == "nameless":
            nodes.extend(put_in(inner, at, True, rows) if inner else ["a"])
            continue
        rows[at] = {"show": SHOWS[kind], "side": "left" if is_run else "none"}
        nodes.append(("a", (), tuple(put_in(inner, at + (0,), kind == "lines", rows))))
    return nodes


def least_tree(shape):
    """A dressed tree of a shape with the fewest elements."""
    if not is_shape(shape):
        raise BadKinds(shape)
    kind, inner = shape
    rows = {(): {"show": SHOWS[kind]}}
    nodes = put_in(inner, (0,), kind == "lines", rows)
    return Dressed(Tree(("a", (), tuple(nodes))), rows)
