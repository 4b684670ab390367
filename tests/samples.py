"""Graphs, trees and runs for tests; the same ones each time."""

from random import Random

from foreworth.errors import ForeworthError
from foreworth.flow import graph_of
from foreworth.graph import END, Graph
from foreworth.runs import run_of

# Node 0 leads to a ring of nodes 1 and 2 with two doors, and that one to node 3.
TWO_DOORS = [("a", 1, (1, 2)), ("b", 4, (2, END)), ("c", 3, (1, 3)), ("d", 2, (END,))]


def random_graphs(many, *, most=7, seed=1):
    """The list of that many graphs of up to `most` nodes."""
    source = Random(seed)
    found = []
    while len(found) < many:
        size = source.randint(1, most)
        rows = []
        for node in range(size):
            targets = [source.randint(END, size - 1) for _ in range(source.randint(1, 3))]
            rows.append(("abc"[source.randint(0, 2)], source.randint(1, 9), tuple(targets)))
        try:
            found.append(Graph(rows))
        except ForeworthError:
            pass
    return found


def random_statement(source, depth, loops, names):
    """A statement that may stand where so many loops are open."""
    kinds = ["do", "do", "do", "mark", "jump", "stop"]
    if depth < 3:
        kinds += ["choose", "choose", "loop", "loop"]
    if loops:
        kinds += ["leave", "leave", "again"]
    kind = source.choice(kinds)
    if kind == "do":
        return ("do", source.choice("abc"), source.randint(1, 9))
    if kind == "choose":
        arms = [random_body(source, depth + 1, loops, names) for _ in range(source.randint(2, 4))]
        return ("choose", source.choice("abc"), source.randint(1, 9), tuple(arms))
    if kind == "loop":
        return ("loop", random_body(source, depth + 1, loops + 1, names))
    if kind == "mark":
        names.append(f"m{'abcdefghij'[len(names) % 10]}" + "x" * (len(names) // 10))
        return ("mark", names[-1])
    if kind == "jump":
        return ("jump", source.choice(names) if names else "ma")
    return (kind,)


def random_body(source, depth, loops, names):
    """A tree of a few statements."""
    return tuple(random_statement(source, depth, loops, names) for _ in range(source.randint(0, 3)))


def random_trees(many, *, seed=2):
    """The list of that many trees whose text can be read; many of them have no graph."""
    source = Random(seed)
    found = []
    while len(found) < many:
        names = []
        tree = random_body(source, 0, 0, names)
        if tree and ("ma" in names or "jump" not in str(tree)) and len(names) < 30:
            found.append(tree)
    return found


def trees_with_graphs(many, *, seed=3):
    """The list of that many trees that have a graph, with these graphs."""
    found = []
    while len(found) < many:
        for tree in random_trees(200, seed=seed):
            try:
                found.append((tree, graph_of(tree)))
            except ForeworthError:
                pass
        seed += 1
    return found[:many]


def random_runs(graph, many, *, seed=4):
    """A team of that many runs of a graph."""
    source = Random(seed)
    found = []
    while len(found) < many:
        choices = [source.randint(0, 3) for _ in range(40)]
        run, ended = run_of(graph, choices, limit=40)
        if ended:
            found.append(run)
        elif seed > 0 and source.randint(0, 9) == 0:
            break
    return found
