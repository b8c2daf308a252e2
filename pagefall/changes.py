"""What a change of a page sets anew: its boxes ahead of it and behind it, one beside the other."""

from pagefall.layouts import depths_at, holder_of, told_boxes
from pagefall.ratios import minus
from pagefall.trees import behind_put, behind_take


class Stage:
    """A design at a width, laid when it is first asked for; it never changes."""

    def __init__(self, design, width):
        self.design = design
        self.width = width
        self.laid = None

    def page(self):
        """The pair of the plan and the told boxes."""
        if self.laid is None:
            depths = depths_at(self.design, self.width)
            self.laid = (depths.plan, told_boxes(depths))
        return self.laid

    def boxes(self):
        return self.page()[1]


class Change:
    """A change from one stage to another one: at put a node was put, at taken one was taken (None: nowhere)."""

    def __init__(self, one, other, put=None, taken=None):
        self.one = one
        self.other = other
        self.put = put
        self.taken = taken

    def turned_back(self):
        """The change from the other stage to the one."""
        return Change(self.other, self.one, self.taken, self.put)

    def path_behind(self, path):
        """The path that a node has behind the change, None if it is gone."""
        if self.put is not None:
            return behind_put(path, self.put)
        return path if self.taken is None else behind_take(path, self.taken)

    def told(self):
        """The dict of the ids of boxes that are gone, moved, new and sized."""
        ahead = self.boxes_behind()
        lists = {"gone": [], "moved": [], "new": [], "sized": []}
        places = own_places(self.other)
        met = set()
        for box in self.other.boxes():
            kept = ahead.get(box[:2])
            if kept is None:
                lists["new"].append(box[0])
                continue
            met.add(kept[0][0])
            if kept[0][4:] != box[4:]:
                lists["sized"].append(box[0])
            elif kept[1] != places[box[0]]:
                lists["moved"].append(box[0])
        lists["gone"] = [box[0] for box in self.one.boxes() if box[0] not in met]
        return lists

    def boxes_behind(self):
        """From the ids and kinds that boxes ahead would have behind to pairs of the box and its own place."""
        places = own_places(self.one)
        behind = {}
        for box in self.one.boxes():
            (path, number), kind = box[:2]
            path = self.path_behind(path)
            if path is not None:
                behind[((path, number), kind)] = (box, places[box[0]])
        return behind


def own_places(stage):
    """The dict from ids to corners less those of the boxes in which they stand."""
    plan, boxes = stage.page()
    corners = {box[0]: box[2:4] for box in boxes}
    places = {}
    for box in boxes:
        holder = holder_of(plan, box)
        x, y = ((0, 1), 0) if holder is None else corners[holder]
        places[box[0]] = (minus(box[2], x), box[3] - y)
    return places
