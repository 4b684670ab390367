"""Joining the doors of rings: a cover for which foresight is worth nothing."""

from foreworth.graph import Graph
from foreworth.parts import tame_parts


def join(graph):
    """The joined graph, and its mapping to the graph."""
    parts = tame_parts(graph)
    copied = copied_nodes(parts)
    copies = {node: graph.size + place for place, node in enumerate(copied)}
    rows = []
    for node, (word, price, targets) in enumerate(graph):
        inside = {other: True for other in parts.groups[parts.owner[node]]}
        outward = {target: copies[target] for target in targets
                   if target in copies and target not in inside}
        rows.append((word, price, replaced(targets, outward)))
    for node in copied:
        rows.append((graph.word(node), graph.price(node), replaced(graph.successors(node), copies)))
    return (Graph(rows), list(range(graph.size)) + copied)


def copied_nodes(parts):
    """The nodes from the start of all doors up to the last one, of each ring in order."""
    copied = []
    for ring in parts.rings:
        if ring is not None and len(ring.doors) > 1:
            many = (ring.last() - ring.start()) % ring.size
            copied.extend(parts.going_round(ring.nodes[ring.start()], many))
    return copied


def replaced(targets, others):
    """The successors, where those that are keys of the dict are replaced."""
    return tuple([others.get(target, target) for target in targets])
