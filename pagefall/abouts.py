"""What one length of a page can be asked about."""

from pagefall.errors import BadWidth
from pagefall.kinds import is_integer, is_path, is_width
from pagefall.refusals import BadAbout

NAMES = ("width", "base", "least", "most", "mleft", "mright", "pleft", "pright")


def hangs_within(plan, path):
    """Whether needs and wishes of what stands in an element are asked for by how wide it is."""
    way, worths = plan.way(path), plan.worths(path)
    if way == "item":
        return worths["base"] == "auto" and worths["width"] == "auto"
    return way == "cell" or way == "float" and worths["width"] == "auto"


def is_askable(plan, path, name):
    """Whether one length of the page can be asked about."""
    if not is_path(path) or not isinstance(name, str) or name not in NAMES:
        return False
    path = tuple(path)
    if path not in plan.kinds or not is_integer(plan.worths(path)[name]) or plan.way(path) == "cell":
        return False
    return not any([hangs_within(plan, path[:depth]) for depth in range(len(path))])


def about_wants(design, width, path, name):
    """The needs and wishes of a page at a width, if one length of an element can be asked about there."""
    if not is_width(width):
        raise BadWidth(width)
    wants = design.wants_at(width)
    if not is_askable(wants.plan, path, name):
        raise BadAbout((path, name))
    return wants
