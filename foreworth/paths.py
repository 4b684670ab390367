"""Shortest paths."""

from foreworth.graph import END, edges_into


def shortest_path(graph, first, last, *, avoid=()):
    """The least shortest path from first to last that avoids some nodes, or None."""
    steps = steps_to(graph, last, avoid)
    if first not in steps:
        return None
    path = [first]
    for left in reversed(range(steps[first])):
        targets = graph.successors(path[-1])
        path.append(min([target for target in targets if steps.get(target) == left]))
    return path


def steps_to(graph, last, avoid):
    """A dict from nodes to the least number of edges on a path from them to last.

    Nodes from which no path leads there, and avoided nodes, are not in it.
    """
    goals = [last]
    if last == END:
        goals = [node for node in range(graph.size) if END in graph.successors(node)]
    before = edges_into(graph)
    layer = [node for node in goals if node not in avoid]
    steps = {node: 0 for node in layer}
    while layer:
        following = []
        for node in list(layer):
            for earlier in before[node]:
                if earlier not in steps and earlier not in avoid:
                    steps[earlier] = steps[node] + 1
                    following.append(earlier)
        layer = following
    return steps
