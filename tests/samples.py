"""Graphs, trees and runs for tests; the same ones each time."""

from random import Random

from foreworth.errors import ForeworthError
from foreworth.flow import graph_of
from foreworth.graph import END, Graph
from foreworth.runs import run_of

# Node 0 leads to a ring of nodes 1 and 2 with two doors, and that one to node 3.
TWO_DOORS = [("a", 1, (1, 2)), ("b", 4, (2, END)), ("c", 3, (1, 3)), ("d", 2, (END,))]


def random_graphs(many, *, most=7, seed=1):
    """The list of that many graphs of up to `most` nodes."""
    source = Random(seed)
    found = []
    while len(found) < many:
        size = source.randint(1, most)
        rows = []
        for node in range(size):
            targets = [source.randint(END, size - 1) for _ in range(source.randint(1, 3))]
            rows.append(("abc"[source.randint(0, 2)], source.randint(1, 9), tuple(targets)))
        try:
            found.append(Graph(rows))
        except ForeworthError:
            pass
    return found


def random_statement(source, depth, loops, names):
    """A statement that may stand where so many loops are open."""
    kinds = ["do", "do", "do", "mark", "jump", "stop"]
    if depth < 3:
        kinds += ["choose", "choose", "loop", "loop"]
    if loops:
        kinds += ["leave", "leave", "again"]
    kind = source.choice(kinds)
    if kind == "do":
        return ("do", source.choice("abc"), source.randint(1, 9))
    if kind == "choose":
        arms = [random_body(source, depth + 1, loops, names) for _ in range(source.randint(2, 4))]
        return ("choose", source.choice("abc"), source.randint(1, 9), tuple(arms))
    if kind == "loop":
        return ("loop", random_body(source, depth + 1, loops + 1, names))
    if kind == "mark":
        names.append(f"m{'abcdefghij'[len(names) % 10]}" + "x" * (len(names) // 10))
        return ("mark", names[-1])
    if kind == "jump":
        return ("jump", source.choice(names) if names else "ma")
    return (kind,)


def random_body(source, depth, loops, names):
    """A tree of a few statements."""
    return tuple(random_statement(source, depth, loops, names) for _ in range(source.randint(0, 3)))


def random_trees(many, *, seed=2):
    """The list of that many trees whose text can be read; many of them have no graph."""
    source = Random(seed)
    found = []
    while len(found) < many:
        names = []
        tree = random_body(source, 0, 0, names)
        if tree and ("ma" in names or "jump" not in str(tree)) and len(names) < 30:
            found.append(tree)
    return found


def trees_with_graphs(many, *, seed=3):
    """The list of that many trees that have a graph, with these graphs."""
    found = []
    while len(found) < many:
        for tree in random_trees(200, seed=seed):
            try:
                found.append((tree, graph_of(tree)))
            except ForeworthError:
                pass
        seed += 1
    return found[:many]


def random_runs(graph, many, *, seed=4):
    """A team of that many runs of a graph."""
    source = Random(seed)
    found = []
    while len(found) < many:
        choices = [source.randint(0, 3) for _ in range(40)]
        run, ended = run_of(graph, choices, limit=40)
        if ended:
            found.append(run)
        elif seed > 0 and source.randint(0, 9) == 0:
            break
    return found

# Nodes 1 to 3 are a wild component: node 1 goes on to 2 or 3, both come back to it.
WILD = [("a", 1, (1,)), ("b", 2, (2, 3)), ("c", 3, (1,)), ("d", 1, (1, 4)), ("e", 5, (END,))]

# A ring of nodes 0 and 1, which has one door, then a ring of nodes 2, 3 and 4 with three
# doors, then node 5, then a ring of node 6 alone.
THREE_RINGS = [
    ("a", 2, (1, 2)), ("b", 3, (0, 3, 4, 5)), ("c", 4, (3, 5)), ("d", 1, (4,)),
    ("e", 6, (2, 5)), ("f", 1, (6, END)), ("g", 7, (6, END)),
]


def tame_graphs(many, *, most=7, seed=5):
    """The list of that many graphs without wild components, many of them with several doors."""
    source = Random(seed)
    found = []
    while len(found) < many:
        layers = random_layers(source, most)
        try:
            found.append(Graph(layered_rows(source, layers)))
        except ForeworthError:
            pass
    return found


def random_layers(source, most):
    """Lists of the nodes from 0 to less than `most`; the ones behind the first are mixed up."""
    nodes = list(range(1, source.randint(1, most)))
    source.shuffle(nodes)
    layers = [[0]]
    if source.randint(0, 4) == 0:
        layers[0] += nodes[:2]
        nodes = nodes[2:]
    while nodes:
        size = source.choice([1, 1, 2, 3, 4])
        layers.append(nodes[:size])
        nodes = nodes[size:]
    return layers


def layered_rows(source, layers):
    """Rows for these layers: rings or single nodes, which lead to later layers alone."""
    rows = {}
    for place, layer in enumerate(layers):
        later = ([node for other in layers[place + 1:] for node in other] + [END])[:5]
        ring = len(layer) > 1 or source.randint(0, 4) == 0
        for at, node in enumerate(layer):
            many = source.randint(0, 2) if ring else source.randint(2, 3)
            targets = [source.choice(later) for _ in range(many)]
            if ring:
                targets.insert(source.randint(0, many), layer[(at + 1) % len(layer)])
            rows[node] = ("abc"[source.randint(0, 2)], source.randint(1, 9), tuple(targets))
    return [rows[node] for node in range(len(rows))]


def ring_graph(ring):
    """A graph with this ring as nodes 1 and more, which is left from each of its nodes.

    Node 0 and the nodes behind the ring, with price 1, lead to the doors.
    """
    inner = [position + 1 for position in range(ring.size)]
    rows = [("r", price, (position % ring.size + 1, END))
            for position, price in zip(inner, ring.prices)]
    chain = list(ring.doors)
    first = [("s", 1, (chain[0] + 1, ring.size + 1) if len(chain) > 1 else (chain[0] + 1,))]
    behind = []
    for place, door in enumerate(chain[1:], start=1):
        onward = (ring.size + 1 + place,) if place + 1 < len(chain) else ()
        behind.append(("s", 1, (door + 1, *onward)))
    return Graph(first + rows + behind)


def ring_run(ring, door, length):
    """The run of that graph with a stay of this length from this door."""
    steps = ring.doors.index(door)
    way = [0] + [ring.size + place for place in range(1, steps + 1)]
    return way + [(door + step) % ring.size + 1 for step in range(length)]


def plain_graphs(many, *, most=9, seed=6):
    """Graphs with few words and prices, so that many of their nodes are alike."""
    source = Random(seed)
    found = []
    while len(found) < many:
        size = source.randint(1, most)
        rows = []
        for node in range(size):
            targets = [source.randint(END, size - 1) for _ in range(source.randint(1, 2))]
            rows.append(("ab"[source.randint(0, 6) // 6], 1, tuple(targets)))
        try:
            found.append(Graph(rows))
        except ForeworthError:
            pass
    return found


def random_cover(graph, sheets, *, seed=7):
    """A graph that covers the given one, with up to so many nodes above each, and the mapping."""
    source = Random(seed)
    number = {(0, 0): 0}
    ahead = [(0, 0)]
    rows = []
    for node, _ in ahead:
        word, price, targets = graph.rows()[node]
        above = []
        for target in targets:
            place = (target, source.randint(0, sheets - 1))
            if target == END:
                above.append(END)
                continue
            if place not in number:
                number[place] = len(ahead)
                ahead.append(place)
            above.append(number[place])
        rows.append((word, price, tuple(above)))
    return Graph(rows), [node for node, _ in ahead]
