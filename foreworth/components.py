"""The components of graphs, their order, their kinds and their exits."""

from heapq import heappop, heappush

from foreworth.graph import edges_from, edges_into


def components(graph):
    """The list of the components in their order, each an ascending list of nodes."""
    owner = owners(graph)
    members = {}
    for node, name in enumerate(owner):
        members.setdefault(name, []).append(node)
    crossing = edges_between(graph, owner)
    entering = {name: 0 for name in members}
    for targets in crossing.values():
        for target in targets:
            entering[target] += 1
    # A component is named by its least node, so the heap gives the one that comes next.
    # Node 0 leads to all nodes, so its component alone is entered by no other one.
    ready = [owner[0]]
    found = []
    while ready:
        name = heappop(ready)
        found.append(members[name])
        for target in crossing[name]:
            entering[target] -= 1
            if entering[target] == 0:
                heappush(ready, target)
    return found


def component_of(graph):
    """The list with, for each node, the index of its component."""
    index = [0 for row in graph]
    for place, nodes in enumerate(components(graph)):
        for node in nodes:
            index[node] = place
    return index


def kinds(graph):
    """The list of the kinds of the components, in their order."""
    return [kind_of(graph, nodes) for nodes in components(graph)]


def kind_of(graph, nodes):
    """The kind of the component with these nodes."""
    inside = {node: True for node in nodes}
    many = [len(internal_successors(graph, node, inside)) for node in nodes]
    if sum(many) == 0:
        return "single"
    if max(many) == 1:
        return "ring"
    return "wild"


def internal_successors(graph, node, inside):
    """The ascending list of the distinct successors of a node that are inside."""
    return sorted({target for target in graph.successors(node) if target in inside})


def exits(graph, nodes):
    """The ascending list of the exits of the component with these nodes."""
    inside = {node: True for node in nodes}
    targets = [target for node in nodes for target in graph.successors(node)]
    return sorted({target for target in targets if target not in inside})


def edges_between(graph, owner):
    """A dict from each component to the components to which its edges lead.

    A component is listed there as often as such edges lead to it.
    """
    crossing = {name: [] for name in owner}
    for node, targets in enumerate(edges_from(graph)):
        for target in targets:
            if owner[node] != owner[target]:
                crossing[owner[node]].append(owner[target])
    return crossing


def owners(graph):
    """The list with, for each node, the least node of its component."""
    before = edges_into(graph)
    owner = [None for row in graph]
    # Backwards in the order of leaving, whoever leads to a node that nobody owns
    # yet is in its component.
    for start in reversed(leaving_order(edges_from(graph))):
        if owner[start] is None:
            group = unowned_before(start, before, owner)
            for node in group:
                owner[node] = min(group)
    return owner


def unowned_before(start, before, owner):
    """The nodes without an owner that lead to the start by such nodes alone."""
    met = {start: True}
    layer = [start]
    while layer:
        following = []
        for node in list(layer):
            for earlier in before[node]:
                if owner[earlier] is None and earlier not in met:
                    met[earlier] = True
                    following.append(earlier)
        layer = following
    return list(met)


def leaving_order(edges):
    """The nodes in the order in which a search in depth from node 0 leaves them."""
    followed = [0 for targets in edges]
    met = {0: True}
    trail = [0]
    order = []
    while trail:
        node = trail[-1]
        if followed[node] == len(edges[node]):
            order.append(trail.pop())
        else:
            target = edges[node][followed[node]]
            followed[node] += 1
            if target not in met:
                met[target] = True
                trail.append(target)
    return order
