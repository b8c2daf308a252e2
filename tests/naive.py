"""What the document says, done in the plainest way: the tests compare the program with it."""

from itertools import product


class Dice:
    """Numbers that look thrown, the same in each run."""

    def __init__(self, seed):
        self.state = seed

    def throw(self, many):
        self.state = (self.state * 6364136223846793005 + 1442695040888963407) % 2 ** 64
        return (self.state >> 33) % many

    def pick(self, things):
        return things[self.throw(len(things))]


def some_classes(dice, words):
    return tuple(word for word in words if dice.throw(2))


def some_node(dice, names, words, many):
    """A node with about so many nodes in it."""
    children = []
    many -= 1
    while many > 0:
        if dice.throw(4) == 0:
            children.append(dice.pick(["so", "a b", "-"]))
            many -= 1
        else:
            part = 1 + dice.throw(many)
            children.append(some_node(dice, names, words, part))
            many -= part
    return (dice.pick(names), some_classes(dice, words), tuple(children))


PLACES = [None, None, None, (0, 1), (0, 2), (2, 0), (2, 1), (3, 2)]
FEW_PLACES = [None, None, None, None, (2, 0)]


def some_simple(dice, names, words, places):
    has, lacks = [], []
    for word in words:
        fall = dice.throw(4)
        if fall < 2:
            (has if fall == 0 else lacks).append(word)
    return (dice.pick(names + [None]), has, lacks, dice.pick(places))


def some_selector(dice, names, words, most, places=PLACES):
    steps = [(None, some_simple(dice, names, words, places))]
    for _ in range(dice.throw(most)):
        steps.append((dice.pick(["child", "below", "next", "behind"]), some_simple(dice, names, words, places)))
    return steps


def nodes_of(node, path=()):
    """All pairs of a path and a node, in tree order."""
    rows = [(path, node)]
    if not isinstance(node, str):
        for number, child in enumerate(node[2]):
            rows.extend(nodes_of(child, path + (number,)))
    return rows


def element_at(nodes, path):
    return path in nodes and not isinstance(nodes[path], str)


def elder_path(nodes, path):
    if path == ():
        return None
    for number in range(path[-1] - 1, -1, -1):
        if element_at(nodes, path[:-1] + (number,)):
            return path[:-1] + (number,)
    return None


def elder_paths(nodes, path):
    found = []
    path = elder_path(nodes, path)
    while path is not None:
        found.append(path)
        path = elder_path(nodes, path)
    return found


def related_paths(nodes, path, relation):
    if relation == "child":
        return [path[:-1]] if path else []
    if relation == "below":
        return [path[:depth] for depth in range(len(path))]
    if relation == "next":
        return elder_paths(nodes, path)[:1]
    return elder_paths(nodes, path)


def is_of(nodes, path, simple):
    name, has, lacks, place = simple
    element = nodes[path]
    number = 1 + len(elder_paths(nodes, path))
    if name is not None and element[0] != name:
        return False
    if not set(has) <= set(element[1]) or set(lacks) & set(element[1]):
        return False
    if place is None:
        return True
    return number == place[1] if place[0] == 0 else number % place[0] == place[1]


def given_lists(nodes, path, steps):
    """All lists of paths given to steps, the first of which is the one at a path."""
    if not is_of(nodes, path, steps[0][1]):
        return []
    if len(steps) == 1:
        return [[path]]
    found = []
    for other in related_paths(nodes, path, steps[1][0]):
        found.extend([path] + rest for rest in given_lists(nodes, other, steps[1:]))
    return found


def is_naively_matched(nodes, path, selector):
    return given_lists(nodes, path, selector) != []


def naive_stand(nodes, path, selector):
    """The stand behind the spine of an element, straight from its definition."""
    def taking(other):
        return tuple(k for k in range(len(selector)) if given_lists(nodes, other, selector[k:]))

    def taking_some(others):
        return tuple(sorted({k for other in others for k in taking(other)}))

    number = 1 + len(elder_paths(nodes, path))
    rests = []
    for _, (_, _, _, place) in selector:
        if place is not None:
            rests.append(number % place[0] if place[0] else min(number, place[1] + 1))
    parent = taking(path[:-1]) if path else None
    above = taking_some([path[:depth] for depth in range(len(path))])
    return (taking(path), parent, above, taking_some(elder_paths(nodes, path)), tuple(rests))


def all_spines(names, classes, most):
    """All spines of letters of these names and tuples of classes, of at most so many letters, the least first."""
    kinds = sorted(product(names, classes))
    rows = [[("root", name, some)] for name, some in kinds]
    while len(rows[0]) <= most:
        yield from rows
        longer = []
        for spine in rows:
            for step in ("first", "next"):
                if step == "first" or len(spine) > 1:
                    longer.extend(spine + [(step, name, some)] for name, some in kinds)
        rows = longer


def nodes_along(spine):
    """The paths and elements of the tree of a spine, and the path of its last one."""
    nodes = {}
    path = ()
    for step, name, classes in spine:
        if step == "first":
            path = path + (0,)
        elif step == "next":
            path = path[:-1] + (path[-1] + 1,)
        nodes[path] = (name, classes, ())
    return nodes, path


def is_spine_naively_matched(spine, selector):
    nodes, path = nodes_along(spine)
    return is_naively_matched(nodes, path, selector)


def deep_node(many, name="a", klass="k"):
    """So many elements, each in the one ahead."""
    node = (name, [klass], [])
    for _ in range(many - 1):
        node = (name, [klass], [node])
    return node


def deep_list(many):
    thing = []
    for _ in range(many):
        thing = [thing]
    return thing


class Asserts:
    """Beside unittest.TestCase: asks for an error and what it keeps."""

    def assert_raises(self, error, kept, work, *arguments, **more):
        with self.assertRaises(error) as caught:
            work(*arguments, **more)
        self.assertIs(caught.exception.__class__, error)
        self.assertEqual(list(vars(caught.exception).values()), [kept])
        return caught.exception

    def assert_keeps(self, error, thing, work, *arguments):
        """As assert_raises, but what is kept is the very one."""
        caught = self.assert_raises(error, thing, work, *arguments)
        self.assertIs(list(vars(caught).values())[0], thing)
