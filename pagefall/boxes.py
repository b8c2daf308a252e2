"""Boxes out of dressed trees."""

from pagefall.flows import Flow
from pagefall.refusals import NoBox


def way_of(dressed, path):
    """How an element stands."""
    path = dressed.own_tree().element_path(path)
    return Flow(dressed).all_ways[path]


def shown_as(dressed, path):
    """What an element is shown as."""
    path = dressed.own_tree().element_path(path)
    return Flow(dressed).shown[path]


def box_in(flow, path):
    """The box of an element that has one."""
    kind = flow.kind_of(path)
    if kind == "lines":
        return ((path, 0), kind, flow.run_of(flow.children_of(path)))
    inner = []
    for box, run, _ in flow.parts_in(path):
        inner.append(box_in(flow, box[0]) if run is None else (box, "lines", run))
    return ((path, 0), kind, inner)


def box_at(dressed, path):
    """The box of an element."""
    path = dressed.own_tree().element_path(path)
    flow = Flow(dressed)
    if not flow.has_box(path):
        raise NoBox((path, 0))
    return box_in(flow, path)


def box_tree(dressed):
    """The box of the root."""
    return box_in(Flow(dressed), ())


def nameless_in(flow, path):
    """The ids of the nameless boxes of an element."""
    if not flow.has_box(path) or flow.kind_of(path) == "lines":
        return []
    return [box for box, run, _ in flow.parts_in(path) if run is not None]


def all_boxes(dressed):
    """The ids of all boxes, in tree order."""
    flow = Flow(dressed)
    ids = []
    waiting = [((), 0)]
    while waiting:
        path, number = waiting.pop()
        if number > 0:
            ids.append((path, number))
            continue
        if flow.has_box(path):
            ids.append((path, 0))
        nameless = nameless_in(flow, path)
        for child in reversed(flow.children_of(path)):
            waiting.append((child, 0))
            if (path, child[-1] + 1) in nameless:
                waiting.append((path, child[-1] + 1))
    return ids
