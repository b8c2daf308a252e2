"""Trees of elements and texts, and the edits that make another tree."""

from pagefall.errors import BadClass, BadNode, BadPath, NoElement, NoNode, NoPlace, NoText
from pagefall.kinds import is_list, is_path, is_text, is_word, is_words


def is_sound(thing):
    """Whether a thing is a node by itself, whatever its children are."""
    if not is_list(thing):
        return is_text(thing)
    return len(thing) == 3 and is_word(thing[0]) and is_words(thing[1]) and is_list(thing[2])


def path_up(link):
    """The path at the end of a chain of pairs of a link above and a child number."""
    numbers = []
    while link is not None:
        link, number = link
        numbers.append(number)
    return tuple(numbers[::-1])


def first_unsound(thing):
    """The path of the first thing, in tree order, that is no node by itself, or None."""
    # Things that are refused may be nested deeper than calls can be, and paths kept for all would grow too large.
    waiting = [(thing, None)]
    while waiting:
        node, link = waiting.pop()
        if not is_sound(node):
            return path_up(link)
        if is_list(node):
            for number in range(len(node[2]) - 1, -1, -1):
                waiting.append((node[2][number], (link, number)))
    return None


def is_node(thing):
    return first_unsound(thing) is None


def flat_nodes(node):
    """The nodes in tree order, each with the index of the one above it (None ahead of all)."""
    waiting = [(node, None)]
    rows = []
    while waiting:
        row = waiting.pop()
        rows.append(row)
        if is_list(row[0]):
            above = len(rows) - 1
            for child in reversed(row[0][2]):
                waiting.append((child, above))
    return rows


def told_node(node, gather):
    """The node in tuples throughout, classes ascending, each list of children as gather returns it."""
    rows = flat_nodes(node)
    families = [[] for _ in rows]
    told = node
    for at in range(len(rows) - 1, -1, -1):
        told, above = rows[at]
        if is_list(told):
            told = (told[0], tuple(sorted(told[1])), tuple(gather(families[at][::-1])))
        if above is not None:
            families[above].append(told)
    return told


def same_children(children):
    return children


def joined_children(children):
    """The children with each row of texts side by side as one text."""
    joined = []
    for child in children:
        if joined and not is_list(child) and not is_list(joined[-1]):
            joined[-1] = joined[-1] + child
        else:
            joined.append(child)
    return joined


def paths_to_nodes(root):
    """The dict from the paths of all nodes, in tree order, to the nodes."""
    waiting = [((), root)]
    nodes = {}
    while waiting:
        path, node = waiting.pop()
        nodes[path] = node
        if is_list(node):
            for number in range(len(node[2]) - 1, -1, -1):
                waiting.append((path + (number,), node[2][number]))
    return nodes


def flat_row(node):
    """What tells a node apart in a flat list: deep tuples cannot be compared by Python."""
    return (node[0], node[1], len(node[2])) if is_list(node) else node


class Spot:
    """An element as a letter of spines: source is the index of the spot that is the letter ahead."""

    def __init__(self, path, node, step, source, number):
        self.path = path
        self.name = node[0]
        self.classes = node[1]
        self.step = step
        self.source = source
        self.number = number

    def letter(self):
        return (self.step, self.name, self.classes)


def spots_of(nodes):
    """The spots of all elements, in tree order."""
    spots = []
    places = {}
    youngest = {}
    for path, node in nodes.items():
        if not is_list(node):
            continue
        above = path[:-1]
        if path == ():
            spot = Spot(path, node, "root", None, 1)
        elif above in youngest:
            elder = youngest[above]
            spot = Spot(path, node, "next", elder, spots[elder].number + 1)
        else:
            spot = Spot(path, node, "first", places[above], 1)
        if path != ():
            youngest[above] = len(spots)
        places[path] = len(spots)
        spots.append(spot)
    return spots


class Tree:
    """A tree of elements and texts; it never changes."""

    def __init__(self, root):
        unsound = first_unsound(root) if is_list(root) else ()
        if unsound is not None:
            raise BadNode(unsound)
        self._nodes = paths_to_nodes(told_node(root, same_children))
        self._flat = [flat_row(node) for node in self._nodes.values()]
        self._spots = spots_of(self._nodes)
        self._places = {spot.path: at for at, spot in enumerate(self._spots)}

    def __eq__(self, other):
        return isinstance(other, Tree) and self._flat == other._flat

    def __len__(self):
        return len(self._nodes)

    def root_node(self):
        return self._nodes[()]

    def node_at(self, path):
        return self._nodes[self._node_path(path)]

    def all_paths(self):
        return list(self._nodes)

    def all_elements(self):
        return [spot.path for spot in self._spots]

    def elder_of(self, path):
        """The path of the nearest element ahead of this node among its siblings, or None."""
        path = self._node_path(path)
        if path == ():
            return None
        children = self._nodes[path[:-1]][2]
        for number in range(path[-1] - 1, -1, -1):
            if is_list(children[number]):
                return path[:-1] + (number,)
        return None

    def with_node(self, path, node):
        """The tree with a node put in at a path."""
        if not self._has_place(path):
            raise NoPlace(path)
        path = tuple(path)
        unsound = first_unsound(node)
        if unsound is not None:
            raise BadNode(path + unsound)
        return self._with_children(path[:-1], path[-1], path[-1], [node])

    def without_node(self, path):
        """The tree without the node at a path."""
        place = self._node_path(path)
        if place == ():
            raise NoPlace(path)
        return self._with_children(place[:-1], place[-1], place[-1] + 1, [])

    def with_text(self, path, text):
        """The tree with another text at the path of a text."""
        place = self._node_path(path)
        if place in self._places:
            raise NoText(path)
        if not is_text(text):
            raise BadNode(path)
        return self._with_children(place[:-1], place[-1], place[-1] + 1, [text])

    def with_class(self, path, klass):
        """The tree whose element at a path has a class."""
        name, classes, children = self._nodes[self.element_path(path)]
        if not is_word(klass):
            raise BadClass(klass)
        kept = [word for word in classes if word != klass]
        return self._with_own(tuple(path), (name, kept + [klass], children))

    def without_class(self, path, klass):
        """The tree whose element at a path lacks a class."""
        name, classes, children = self._nodes[self.element_path(path)]
        if not is_word(klass):
            raise BadClass(klass)
        kept = [word for word in classes if word != klass]
        return self._with_own(tuple(path), (name, kept, children))

    def with_inside(self, path, nodes):
        """The tree with other nodes, right ones, in the place of all children of an element."""
        return self._with_children(path, 0, len(self._nodes[path][2]), nodes)

    def joined_texts(self):
        """The tree with texts side by side joined."""
        return Tree(told_node(self._nodes[()], joined_children))

    def has_element(self, path):
        """Whether any object is a path that leads to an element."""
        return is_path(path) and tuple(path) in self._places

    def element_path(self, path):
        """The path of an element as a tuple."""
        if not self.has_element(path):
            raise NoElement(path)
        return tuple(path)

    def all_spots(self):
        """The spots of all elements, in tree order."""
        return list(self._spots)

    def spot_at(self, path):
        return self._spots[self._places[path]]

    def spine_spots(self, path):
        """The spots of the spine of an element, from the root on."""
        at = self._places[path]
        spots = []
        while at is not None:
            spots.append(self._spots[at])
            at = self._spots[at].source
        return spots[::-1]

    def _node_path(self, path):
        if not is_path(path) or tuple(path) not in self._nodes:
            raise NoNode(path)
        return tuple(path)

    def _has_place(self, path):
        if not is_path(path) or len(path) == 0:
            return False
        above = tuple(path[:-1])
        return above in self._places and path[-1] <= len(self._nodes[above][2])

    def _with_children(self, path, start, end, nodes):
        """The tree with nodes instead of the children from start up to end of an element."""
        name, classes, children = self._nodes[path]
        return self._with_own(path, (name, classes, list(children[:start]) + nodes + list(children[end:])))

    def _with_own(self, path, node):
        """The tree with another node at a path."""
        for depth in range(len(path) - 1, -1, -1):
            name, classes, children = self._nodes[path[:depth]]
            at = path[depth]
            node = (name, classes, list(children[:at]) + [node] + list(children[at + 1:]))
        return Tree(node)


def check_paths(path, at):
    if not is_path(path):
        raise BadPath(path)
    if not is_path(at):
        raise BadPath(at)


def moved_path(path, at, by):
    """The path with its number at the last place of the other one changed, if it goes through a younger sibling."""
    last = len(at) - 1
    if len(path) <= last or path[:last] != at[:last] or path[last] < at[last]:
        return path
    return path[:last] + (path[last] + by,) + path[last + 1:]


def behind_put(path, at):
    """The path that a node has behind a node is put at another path."""
    check_paths(path, at)
    path, at = tuple(path), tuple(at)
    return path if at == () else moved_path(path, at, 1)


def behind_take(path, at):
    """The path that a node has behind another one is taken, or None if it is gone."""
    check_paths(path, at)
    path, at = tuple(path), tuple(at)
    return None if path[:len(at)] == at else moved_path(path, at, -1)
