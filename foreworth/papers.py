"""Certificates of the worth of foresight."""

from foreworth.components import internal_successors
from foreworth.graph import END, edges_from
from foreworth.parts import Parts
from foreworth.paths import shortest_path
from foreworth.rings import entered_nodes
from foreworth.runs import price_of


def worth_paper(graph):
    """The certificate of the worth of foresight of a graph."""
    parts = Parts(graph)
    wild = parts.wild_nodes()
    if wild is not None:
        return endless_paper(graph, wild)
    entries = []
    value = 0
    for number, ring in enumerate(parts.rings):
        if ring is not None:
            entries.append(ring_entry(number, ring))
            value += ring.cost()
    return ("finite", parts.owner, entries, value)


def ring_entry(number, ring):
    """The entry of a ring in a certificate, from the start of its doors on."""
    start = ring.start()
    places = [(start + place) % ring.size for place in range(ring.size)]
    nodes = [ring.nodes[place] for place in places]
    doors = [ring.nodes[place] for place in places if place in ring.doors]
    return (number, nodes, doors, ring.greatest_gap())


def endless_paper(graph, nodes):
    """The certificate of a wild component: two loops through one of its nodes."""
    inside = {node: True for node in nodes}
    forks = [node for node in nodes if len(internal_successors(graph, node, inside)) > 1]
    ways = internal_successors(graph, forks[0], inside)
    # All nodes of a path that comes back to the component are in it.
    first = shortest_path(graph, ways[0], forks[0])
    second = shortest_path(graph, ways[1], forks[0])
    return ("endless", first, second)


def check_paper(graph, paper):
    """Tell whether a certificate is accepted."""
    if len(paper) == 4 and paper[0] == "finite":
        return shows_finite(graph, paper[1], paper[2], paper[3])
    if len(paper) == 3 and paper[0] == "endless":
        return shows_endless(graph, paper[1], paper[2])
    return False


def shows_finite(graph, numbers, entries, value):
    """Tell whether a certificate shows a finite worth."""
    if len(numbers) != graph.size or leads_back(graph, numbers):
        return False
    named = {entry[0]: True for entry in entries}
    if len(named) != len(entries) or not others_are_single(graph, numbers, named):
        return False
    if not all([is_ring_entry(graph, numbers, entry) for entry in entries]):
        return False
    return value == sum([price_of(graph, entry[1]) - entry[3] for entry in entries])


def leads_back(graph, numbers):
    """Tell whether an edge leads from a node to a node with a lesser number."""
    for node, targets in enumerate(edges_from(graph)):
        if any([numbers[target] < numbers[node] for target in targets]):
            return True
    return False


def others_are_single(graph, numbers, named):
    """Tell whether the nodes without a named number are alone with it and have no loop."""
    others = [node for node in range(graph.size) if numbers[node] not in named]
    if len({numbers[node] for node in others}) != len(others):
        return False
    return all([node not in graph.successors(node) for node in others])


def is_ring_entry(graph, numbers, entry):
    """Tell whether an entry is a ring, with its doors and its greatest gap."""
    number, nodes, doors, gap = entry
    members = [node for node in range(graph.size) if numbers[node] == number]
    if not nodes or sorted(nodes) != members:
        return False
    inside = {node: True for node in members}
    following = [*nodes[1:], nodes[0]]
    for node, target in zip(nodes, following):
        if internal_successors(graph, node, inside) != [target]:
            return False
    entered = entered_nodes(graph, inside)
    places = [place for place, node in enumerate(nodes) if node in entered]
    if places[:1] != [0] or doors != [nodes[place] for place in places]:
        return False
    ends = [*places[1:], len(nodes)]
    gaps = [price_of(graph, nodes[first:behind]) for first, behind in zip(places, ends)]
    return gap == gaps[-1] and gap == max(gaps)


def shows_endless(graph, first, second):
    """Tell whether two lists are different loops through one node."""
    if not first or not second:
        return False
    if first[-1] != second[-1] or first[0] == second[0]:
        return False
    return is_loop(graph, first) and is_loop(graph, second)


def is_loop(graph, nodes):
    """Tell whether a list goes from its last node once round to that node again."""
    if nodes[-1] in nodes[:-1]:
        return False
    before = [nodes[-1], *nodes[:-1]]
    return all([is_step(graph, node, target) for node, target in zip(before, nodes)])


def is_step(graph, node, target):
    """Tell whether two numbers are a node and a node that is its successor."""
    return 0 <= node < graph.size and target != END and target in graph.successors(node)
