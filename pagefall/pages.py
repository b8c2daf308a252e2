"""Live pages: a tree, a sheet and a width that deeds change."""

from pagefall.changes import Change, Stage
from pagefall.designs import Design
from pagefall.errors import BadWidth
from pagefall.kinds import is_width
from pagefall.properties import PROPERTIES
from pagefall.ratios import told_fraction
from pagefall.sealing import unlike_insides
from pagefall.worths import all_worths


class Deed:
    """A deed that is done or taken back: the name of its method, and the change."""

    def __init__(self, name, change):
        self.name = name
        self.change = change


class Past:
    """All that a page keeps: its stage now, deeds done and taken back, and the last change; it never changes."""

    def __init__(self, stage, done, undone, last):
        self.stage = stage
        self.done = done
        self.undone = undone
        self.last = last


def told_width(width):
    if not is_width(width):
        raise BadWidth(width)
    return told_fraction(width)


class Page:
    """A live page."""

    def __init__(self, tree, sheet, width):
        self._past = Past(Stage(Design(tree, sheet), told_width(width)), (), (), None)

    def __eq__(self, other):
        return isinstance(other, Page) and self._now() == other._now()

    def tree_now(self):
        return self._past.stage.design.own_tree()

    def sheet_now(self):
        return self._past.stage.design.own_sheet()

    def width_now(self):
        return self._past.stage.width

    def put_node(self, path, node):
        """Put a node at a path."""
        self._set_tree("put_node", self.tree_now().with_node(path, node), tuple(path), None)

    def take_node(self, path):
        """Take the node at a path."""
        self._set_tree("take_node", self.tree_now().without_node(path), None, tuple(path))

    def new_text(self, path, text):
        """Put another text in the place of one."""
        self._set_tree("new_text", self.tree_now().with_text(path, text), None, None)

    def mark_class(self, path, klass):
        """Give an element a class."""
        self._set_tree("mark_class", self.tree_now().with_class(path, klass), None, None)

    def unmark_class(self, path, klass):
        """Take a class from an element."""
        self._set_tree("unmark_class", self.tree_now().without_class(path, klass), None, None)

    def new_sheet(self, sheet):
        """Set another sheet."""
        self._do("new_sheet", Stage(Design(self.tree_now(), sheet), self.width_now()), None, None)

    def new_width(self, width):
        """Set another width."""
        self._do("new_width", Stage(self._past.stage.design, told_width(width)), None, None)

    def layout_now(self):
        """The layout of what is kept."""
        return list(self._past.stage.boxes())

    def last_changes(self):
        """The dict of the ids of boxes that are gone, moved, new and sized by the last deed, undoing or doing again."""
        if self._past.last is None:
            return {"gone": [], "moved": [], "new": [], "sized": []}
        return self._past.last.told()

    def undo_last(self):
        """Take back the last deed that is not taken back; its name, or None."""
        past = self._past
        if not past.done:
            return None
        deed = past.done[-1]
        self._past = Past(deed.change.one, past.done[:-1], past.undone + (deed,), deed.change.turned_back())
        return deed.name

    def do_again(self):
        """Do again the deed that was taken back last; its name, or None."""
        past = self._past
        if not past.undone:
            return None
        deed = past.undone[-1]
        self._past = Past(deed.change.other, past.done + (deed,), past.undone[:-1], deed.change)
        return deed.name

    def deeds_done(self):
        return len(self._past.done)

    def twin_page(self):
        """Another page that is the same."""
        twin = Page(self.tree_now(), self.sheet_now(), self.width_now())
        twin._past = self._past
        return twin

    def try_out(self, work):
        """What a function of this page returns; all is as ahead then."""
        past = self._past
        try:
            return work(self)
        finally:
            self._past = past

    def is_sealed(self, path):
        """Whether no texts in the place of an element's children change a box outside."""
        return self.felt_outside(path) is None

    def felt_outside(self, path):
        """Two lists of texts with which, in the place of an element's children, a box outside is unlike, or None."""
        path = self.tree_now().element_path(path)
        return unlike_insides(self._past.stage.design, self.width_now(), path)

    def class_touches(self, path, klass):
        """The pairs (path, word) of the worths that turn if an element gets a class or, if it has it, loses it."""
        tree = self.tree_now()
        other = tree.with_class(path, klass)
        if other == tree:
            other = tree.without_class(path, klass)
        worths = all_worths(self.sheet_now(), tree, self.width_now())
        others = all_worths(self.sheet_now(), other, self.width_now())
        return [(at, word) for at in worths for word in PROPERTIES if worths[at][word] != others[at][word]]

    def _now(self):
        """What is kept now, without what lies back and ahead."""
        return (self._past.stage.design, self._past.stage.width)

    def _set_tree(self, name, tree, put, taken):
        self._do(name, Stage(Design(tree, self.sheet_now()), self.width_now()), put, taken)

    def _do(self, name, stage, put, taken):
        """Keep a deed; what was taken back cannot be done again then."""
        past = self._past
        change = Change(past.stage, stage, put, taken)
        self._past = Past(stage, past.done + (Deed(name, change),), (), change)
