"""Where nodes stand: the boxes that hold them, and what a change in their place can turn."""

from pagefall.errors import NoNode
from pagefall.flows import BLOCKS, Flow


def is_in_run(flow, path):
    """Whether a node is a text or a line one."""
    return not flow.is_element(path) or flow.is_line(path)


def home_of(dressed, path):
    """The id of a node's own box, or of the one in whose run it stands, or None."""
    dressed.own_tree().node_at(path)
    path = tuple(path)
    flow = Flow(dressed)
    if flow.has_box(path):
        return (path, 0)
    while is_in_run(flow, path) and flow.is_line(path[:-1]):
        path = path[:-1]
    if not is_in_run(flow, path) or not flow.has_box(path[:-1]):
        return None
    if flow.kind_of(path[:-1]) == "lines":
        return (path[:-1], 0)
    homes = [box for box, _, paths in flow.parts_in(path[:-1]) if path in paths]
    return homes[0] if homes else None


def path_below(dressed, path):
    """The path of a node that is not the root as a tuple."""
    dressed.own_tree().node_at(path)
    if len(path) == 0:
        raise NoNode(path)
    return tuple(path)


def is_firm(dressed, flow, path):
    """Whether an element stays as it is shown, whatever is put into it."""
    way = flow.all_ways[path]
    return way != "gone" and (way != "flow" or dressed.worth_at(path, "show") in BLOCKS)


def firm_above(dressed, path):
    """The path of the nearest firm element above a node."""
    above = path_below(dressed, path)[:-1]
    flow = Flow(dressed)
    while not is_firm(dressed, flow, above):
        above = above[:-1]
    return above


def turned_by(dressed, path):
    """The paths of the elements above a node that are shown as line or as block by what stands in its place."""
    path = path_below(dressed, path)
    flow = Flow(dressed)
    if flow.all_ways[path[:-1]] == "gone":
        return []
    turned = []
    while not is_firm(dressed, flow, path[:-1]):
        above = path[:-1]
        # Another one that breaks it does so whatever stands here.
        if any([child != path and flow.is_block_in_flow(child) for child in flow.children_of(above)]):
            break
        turned.append(above)
        path = above
    return turned[::-1]
