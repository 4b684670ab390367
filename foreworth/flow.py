"""From trees to graphs, and from graphs to their canonical trees."""

from foreworth.control import is_node, steps_of
from foreworth.errors import BadStart, BareLoop
from foreworth.graph import END, Graph

LETTERS = "abcdefghijklmnopqrstuvwxyz"


def graph_of(tree):
    """The graph of a tree."""
    steps = steps_of(tree)
    rests = rests_of(steps)
    for number in range(len(steps)):
        if rests[number] is None:
            raise BareLoop(number)
    numbers = [number for number, step in enumerate(steps) if is_node(step[0])]
    if not numbers or rests[0] != numbers[0]:
        raise BadStart()
    nodes = {number: node for node, number in enumerate(numbers)}
    nodes[END] = END
    rows = []
    for number in numbers:
        statement, targets = steps[number]
        successors = tuple([nodes[rests[target]] for target in targets])
        rows.append((statement[1], statement[2], successors))
    return Graph(rows)


def rests_of(steps):
    """A dict from places to the place at which control from there comes to a node or END.

    It has None for the places from which control moves on forever.
    """
    rests = {number: number for number, step in enumerate(steps) if is_node(step[0])}
    rests[END] = END
    for number in range(len(steps)):
        trail = {}
        place = number
        while place not in rests and place not in trail:
            trail[place] = True
            place = steps[place][1][0]
        # A trail that meets itself is not in the rests, so get gives None for it.
        rest = rests.get(place)
        for passed in trail:
            rests[passed] = rest
    return rests


def name_of(node):
    """The name of a node in a canonical tree."""
    name = LETTERS[node % 26]
    rest = node // 26
    while rest > 0:
        name = LETTERS[rest % 26] + name
        rest = rest // 26
    return name


def tree_of(graph):
    """The canonical tree of a graph."""
    tree = []
    for node, (word, price, successors) in enumerate(graph):
        tree.append(("mark", name_of(node)))
        ways = [way_to(target) for target in successors]
        if len(ways) == 1:
            tree.append(("do", word, price))
            tree.append(ways[0])
        else:
            tree.append(("choose", word, price, tuple([(way,) for way in ways])))
    return tuple(tree)


def way_to(target):
    """The statement that goes to a node or to END."""
    return ("stop",) if target == END else ("jump", name_of(target))
