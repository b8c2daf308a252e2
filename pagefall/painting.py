"""The order in which what is in a page is painted."""


def painted_place(plan, box):
    """What tells, compared, when a told box is painted: for each node from the root on its layer and its number."""
    (path, number), kind = box[:2]
    place = []
    for depth in range(1, len(path) + 1):
        is_text = kind == "text" and depth == len(path)
        place.append((0 if is_text else plan.worths(path[:depth])["layer"], path[depth - 1]))
    return (place, number)


def sign_of(plan, box):
    """The sign that a told box paints: an element its fill, a text its ink."""
    (path, _), kind = box[:2]
    if kind == "text":
        return plan.worths(path[:-1])["ink"]
    fill = plan.worths(path)["fill"]
    return None if fill == "none" else fill


def painted_shapes(plan, boxes):
    """The shapes (path, left, top, width, height, sign) of told boxes, in the order in which they are painted."""
    # Nameless boxes paint nothing, and are no shapes.
    named = [box for box in boxes if box[1] == "text" or box[0][1] == 0]
    placed = sorted([(painted_place(plan, box), at) for at, box in enumerate(named)])
    shapes = []
    for _, at in placed:
        box = named[at]
        shapes.append((box[0][0],) + box[2:] + (sign_of(plan, box),))
    return shapes
