"""Sweeping by an order of the nodes."""

from foreworth.components import component_of
from foreworth.errors import BadOrder
from foreworth.graph import END


class Sweep:
    """Names the nodes of a component in an order, again and again."""

    def __init__(self, graph, order):
        self._rank = places_in(graph, order)
        self._order = list(order)
        self._owner = component_of(graph)
        self._last = {}

    def pick(self, standing, *, shown=None):
        """The node of the next beat."""
        nodes = [node for node in standing if node != END]
        component = min([self._owner[node] for node in nodes])
        places = [self._rank[node] for node in nodes if self._owner[node] == component]
        ahead = [place for place in places if place > self._last.get(component, -1)]
        found = min(ahead or places)
        self._last[component] = found
        return self._order[found]


def back_steps(graph, order, run):
    """The list of the numbers of back steps of a run in each component."""
    place = places_in(graph, order)
    owner = component_of(graph)
    many = [0] * (max(owner) + 1)
    for node, target in zip(run, run[1:]):
        if owner[node] == owner[target] and place[target] <= place[node]:
            many[owner[node]] += 1
    return many


def places_in(graph, order):
    """The list with, for each node, its place in the order, or BadOrder."""
    if sorted(order) != list(range(graph.size)):
        raise BadOrder()
    places = [0] * graph.size
    for place, node in enumerate(order):
        places[node] = place
    return places
