"""The errors of trees, selectors and sheets."""


class PageError(ValueError):
    """What all errors of the program are."""


class BadNode(PageError):
    """A thing that is no node by itself stands at a path."""

    def __init__(self, path):
        PageError.__init__(self, "no node by itself")
        self.path = path


class NoNode(PageError):
    """No node is at a path."""

    def __init__(self, path):
        PageError.__init__(self, "no node is there")
        self.path = path


class NoPlace(PageError):
    """A node cannot be put or taken at a path."""

    def __init__(self, path):
        PageError.__init__(self, "no place for an edit")
        self.path = path


class NoText(PageError):
    """An element is at a path where a text is asked for."""

    def __init__(self, path):
        PageError.__init__(self, "no text is there")
        self.path = path


class NoElement(PageError):
    """No element is at a path."""

    def __init__(self, path):
        PageError.__init__(self, "no element is there")
        self.path = path


class BadClass(PageError):
    """A class is no word."""

    def __init__(self, klass):
        PageError.__init__(self, "no class")
        self.klass = klass


class BadPath(PageError):
    """A thing is no tuple of integers from 0 on."""

    def __init__(self, path):
        PageError.__init__(self, "no path")
        self.path = path


class BadText(PageError):
    """A text cannot be read from an index on."""

    def __init__(self, index):
        PageError.__init__(self, "no text that can be read")
        self.index = index


class BadSelector(PageError):
    """A thing is no selector."""

    def __init__(self, thing):
        PageError.__init__(self, "no selector")
        self.thing = thing


class BadSpine(PageError):
    """A thing is no spine."""

    def __init__(self, thing):
        PageError.__init__(self, "no spine")
        self.thing = thing


class BadStand(PageError):
    """A thing is neither a stand of the selector nor None."""

    def __init__(self, thing):
        PageError.__init__(self, "no stand of the selector")
        self.thing = thing


class BadLetter(PageError):
    """A thing is no letter that can stand there."""

    def __init__(self, thing):
        PageError.__init__(self, "no letter that can stand there")
        self.thing = thing


class BadNest(PageError):
    """A thing is no nest."""

    def __init__(self, thing):
        PageError.__init__(self, "no nest")
        self.thing = thing


class BadList(PageError):
    """A thing in a list is no selector, or there is no list."""

    def __init__(self, index):
        PageError.__init__(self, "no list of selectors")
        self.index = index


class NoPart(PageError):
    """A thing is no part of the selector."""

    def __init__(self, part):
        PageError.__init__(self, "no part of the selector")
        self.part = part


class BadRule(PageError):
    """A thing in a list is no rule, or there is no list."""

    def __init__(self, index):
        PageError.__init__(self, "no rule")
        self.index = index


class BadNumber(PageError):
    """A thing is no number of a rule."""

    def __init__(self, number):
        PageError.__init__(self, "no number of a rule")
        self.number = number


class BadWord(PageError):
    """A thing is no property or own name that can be asked."""

    def __init__(self, word):
        PageError.__init__(self, "no property or own name to ask for")
        self.word = word


class BadWidth(PageError):
    """A thing is no fraction from 0 on."""

    def __init__(self, width):
        PageError.__init__(self, "no width")
        self.width = width


class BadGiven(PageError):
    """A wish for a worth is none."""

    def __init__(self, word):
        PageError.__init__(self, "no wish for a worth")
        self.word = word


class BadWhere(PageError):
    """A thing is none of the four places of reach."""

    def __init__(self, where):
        PageError.__init__(self, "no place of reach")
        self.where = where


class BadValue(PageError):
    """A value is let for no property and no own name."""

    def __init__(self, thing):
        PageError.__init__(self, "no value")
        self.thing = thing
