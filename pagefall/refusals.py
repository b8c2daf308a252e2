"""The errors of boxes, laying, widths and paint."""

from pagefall.errors import PageError


class BadDress(PageError):
    """A path or its worths cannot dress a tree."""

    def __init__(self, thing):
        PageError.__init__(self, "no dress of the tree")
        self.thing = thing


class NoBox(PageError):
    """No box has an id."""

    def __init__(self, box):
        PageError.__init__(self, "no such box")
        self.box = box


class BadKinds(PageError):
    """A thing is no shape of a dressed tree."""

    def __init__(self, thing):
        PageError.__init__(self, "no shape of a dressed tree")
        self.thing = thing


class BadAcross(PageError):
    """A thing is not what a block is told across."""

    def __init__(self, thing):
        PageError.__init__(self, "nothing told across")
        self.thing = thing


class BadRoom(PageError):
    """A thing is no room."""

    def __init__(self, room):
        PageError.__init__(self, "no room")
        self.room = room


class BadRows(PageError):
    """A thing in a list of rows is none."""

    def __init__(self, index):
        PageError.__init__(self, "no row")
        self.index = index


class BadMargins(PageError):
    """A thing in a list of margins is none."""

    def __init__(self, index):
        PageError.__init__(self, "no margins")
        self.index = index


class BadRun(PageError):
    """A thing in a run is none of its parts."""

    def __init__(self, index):
        PageError.__init__(self, "no part of a run")
        self.index = index


class BadAlign(PageError):
    """A thing is no way to align."""

    def __init__(self, align):
        PageError.__init__(self, "no way to align")
        self.align = align


class BadItems(PageError):
    """A thing in a list of items is none."""

    def __init__(self, index):
        PageError.__init__(self, "no item")
        self.index = index


class BadGap(PageError):
    """A thing is no gap."""

    def __init__(self, thing):
        PageError.__init__(self, "no gap")
        self.thing = thing


class NoItem(PageError):
    """No item has an index."""

    def __init__(self, index):
        PageError.__init__(self, "no such item")
        self.index = index


class BadSize(PageError):
    """A thing is no size."""

    def __init__(self, thing):
        PageError.__init__(self, "no size")
        self.thing = thing


class UnlikeItems(PageError):
    """Two rows do not have items that can be compared."""

    def __init__(self):
        PageError.__init__(self, "unlike items")


class BadCells(PageError):
    """A thing in a list of cells is none."""

    def __init__(self, index):
        PageError.__init__(self, "no cell")
        self.index = index


class NoPlacing(PageError):
    """There is no such placing."""

    def __init__(self):
        PageError.__init__(self, "no placing")


class NoLine(PageError):
    """There is no such line."""

    def __init__(self, line):
        PageError.__init__(self, "no such line")
        self.line = line


class BadPlace(PageError):
    """A thing is no place."""

    def __init__(self, thing):
        PageError.__init__(self, "no place")
        self.thing = thing


class UnlikeColumns(PageError):
    """Two things have unlike numbers of columns."""

    def __init__(self):
        PageError.__init__(self, "unlike columns")


class BadForm(PageError):
    """A thing is no form."""

    def __init__(self, thing):
        PageError.__init__(self, "no form")
        self.thing = thing


class BadFraction(PageError):
    """A thing is no fraction."""

    def __init__(self, thing):
        PageError.__init__(self, "no fraction")
        self.thing = thing


class BadStretch(PageError):
    """A thing in a list of stretches is none."""

    def __init__(self, index):
        PageError.__init__(self, "no stretch")
        self.index = index


class BadStretches(PageError):
    """A thing is no list of stretches."""

    def __init__(self, thing):
        PageError.__init__(self, "no stretches")
        self.thing = thing


class BadForms(PageError):
    """A thing in a list of forms is none."""

    def __init__(self, index):
        PageError.__init__(self, "no form in the list")
        self.index = index


class NoLines(PageError):
    """What is at a path has no lines."""

    def __init__(self, path):
        PageError.__init__(self, "no lines are there")
        self.path = path


class BadWish(PageError):
    """A thing is no wish."""

    def __init__(self, thing):
        PageError.__init__(self, "no wish")
        self.thing = thing


class BadAbout(PageError):
    """A thing is nothing that can be asked about."""

    def __init__(self, thing):
        PageError.__init__(self, "nothing to ask about")
        self.thing = thing


class BadShape(PageError):
    """A thing in a list of shapes is none."""

    def __init__(self, index):
        PageError.__init__(self, "no shape")
        self.index = index


class BadPoint(PageError):
    """Two things are no point."""

    def __init__(self, x, y):
        PageError.__init__(self, "no point")
        self.x = x
        self.y = y


class BadRectangle(PageError):
    """A thing in a list of rectangles is none."""

    def __init__(self, index):
        PageError.__init__(self, "no rectangle")
        self.index = index


class BadRegion(PageError):
    """A thing is no region."""

    def __init__(self, thing):
        PageError.__init__(self, "no region")
        self.thing = thing
