"""Changes of graphs, each of which makes a new graph."""

from foreworth.errors import BadChange
from foreworth.graph import Graph


def with_price(graph, node, price):
    """The graph in which a node has another price."""
    return with_row(graph, node, price, graph.successors(node))


def with_successor(graph, node, target):
    """The graph in which a node has one more successor, behind the others."""
    targets = graph.successors(node)
    return with_row(graph, node, graph.price(node), (*targets, target))


def without_successor(graph, node, place):
    """The graph in which a node lacks the successor entry at that place."""
    targets = graph.successors(node)
    if not 0 <= place < len(targets):
        raise BadChange(node)
    return with_row(graph, node, graph.price(node), targets[:place] + targets[place + 1:])


def split_node(graph, node, first):
    """The graph in which a new node behind a node has all but `first` of its price."""
    price = graph.price(node)
    if not 1 <= first < price:
        raise BadChange(node)
    rows = graph.rows()
    rows[node] = (graph.word(node), first, (graph.size,))
    rows.append((graph.word(node), price - first, graph.successors(node)))
    return Graph(rows)


def split_run(run, node, added):
    """The run with the added node behind each time that it is at the node."""
    found = []
    for place in run:
        found.append(place)
        if place == node:
            found.append(added)
    return found


def with_row(graph, node, price, targets):
    """The graph in which a node has this price and these successors."""
    rows = graph.rows()
    rows[node] = (graph.word(node), price, targets)
    return Graph(rows)
