"""A small reader of trees, and their writing."""

from pagefall.errors import BadText
from pagefall.kinds import LONGEST_WORD, is_text, is_word
from pagefall.trees import Tree


def word_at(text, start):
    """The letters from a place on, no more of them than a word has."""
    end = start
    while end < len(text) and end < start + LONGEST_WORD and is_word(text[end]):
        end += 1
    return text[start:end]


def begin_at(text, start):
    """The name, the classes as they stand there and the end of the begin at a place, or None."""
    name = word_at(text, start + 1)
    if name == "":
        return None
    end = start + 1 + len(name)
    classes = []
    while text[end:end + 1] == " ":
        klass = word_at(text, end + 1)
        if klass == "":
            return None
        classes.append(klass)
        end += 1 + len(klass)
    return (name, classes, end + 1) if text[end:end + 1] == ">" else None


def end_at(text, start):
    """The name and the end of the end mark at a place, or None."""
    if text[start + 1:start + 2] != "/":
        return None
    name = word_at(text, start + 2)
    end = start + 2 + len(name)
    if name == "" or text[end:end + 1] != ">":
        return None
    return (name, end + 1)


class Reader:
    """A text on its way to a tree: the elements that have begun and not ended, and the slips."""

    def __init__(self, text):
        self.text = text
        self.root = ["page", [], []]
        self.begun = [self.root]
        self.begins = [None]
        self.signs = []
        self.slips = []
        at = 0
        while at < len(text):
            at = self.read_at(at)
        self.leave_down_to(1)
        self.end_text()

    def read_at(self, at):
        """Read the mark or the sign at a place and return the place behind it."""
        if self.text[at] == "<":
            begin = begin_at(self.text, at)
            if begin is not None:
                self.enter(at, begin[0], begin[1])
                return begin[2]
            end = end_at(self.text, at)
            if end is not None:
                self.leave(at, end[0])
                return end[1]
        if is_text(self.text[at]):
            self.signs.append(self.text[at])
        else:
            self.slips.append((at, "sign"))
        return at + 1

    def end_text(self):
        """Put the signs since the last mark that counted into the element that is open last."""
        if self.signs:
            self.begun[-1][2].append("".join(self.signs))
            self.signs = []

    def enter(self, at, name, classes):
        kept = sorted(set(classes))
        if len(kept) < len(classes):
            self.slips.append((at, "class"))
        self.end_text()
        node = [name, kept, []]
        self.begun[-1][2].append(node)
        self.begun.append(node)
        self.begins.append(at)

    def leave(self, at, name):
        depth = len(self.begun) - 1
        while depth > 0 and self.begun[depth][0] != name:
            depth -= 1
        if depth == 0:
            self.slips.append((at, "end"))
            return
        self.leave_down_to(depth + 1)
        self.end_text()
        self.begun.pop()
        self.begins.pop()

    def leave_down_to(self, many):
        """End the last elements, without an end of their own, until so many are open."""
        while len(self.begun) > many:
            self.end_text()
            self.begun.pop()
            self.slips.append((self.begins.pop(), "open"))


def reader_of(text):
    if not isinstance(text, str):
        raise BadText(0)
    return Reader(text)


def read_tree(text):
    """The tree of any string."""
    return Tree(reader_of(text).root)


def slips_of(text):
    """The places at which a string is not as it should be."""
    return sorted(reader_of(text).slips)


def begin_mark(node):
    return "<" + " ".join([node[0]] + list(node[1])) + ">"


def write_tree(tree):
    """The text of what is in the root, if this is a page without classes, else of the root itself."""
    root = tree.root_node()
    bare = root[0] == "page" and root[1] == ()
    waiting = list(root[2][::-1]) if bare else [root]
    pieces = []
    while waiting:
        node = waiting.pop()
        if isinstance(node, str):
            pieces.append(node)
        else:
            pieces.append(begin_mark(node))
            waiting.append("</" + node[0] + ">")
            waiting.extend(node[2][::-1])
    return "".join(pieces)
