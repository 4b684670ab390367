"""Two lanes: what two routes can cost at most, and heights of pairs that bound it."""

from foreworth.components import exits
from foreworth.errors import TooLarge
from foreworth.graph import END
from foreworth.parts import Parts, tame_parts

MOST_NODES = 60


def pair_worth(graph):
    """The greatest route cost of two routes of a graph, or None if it is endless."""
    check_size(graph)
    parts = Parts(graph)
    if parts.wild_nodes() is not None:
        return None
    return true_heights(Pairs(graph, parts))[(0, 0)]


def pair_heights(graph):
    """The dict of the true heights of all pairs."""
    return true_heights(pairs_of(graph))


def check_pair_heights(graph, heights, claim):
    """Tell whether the heights bound the pair worth by the claim."""
    pairs = pairs_of(graph)
    found = pairs.reachable()
    if any([pair not in heights for pair in found]):
        return False
    if heights[(END, END)] < 0 or heights[(0, 0)] > claim:
        return False
    return all([is_high_enough(pairs, heights, pair) for pair in found])


def pair_routes(graph):
    """Two routes whose route cost is the pair worth."""
    pairs = pairs_of(graph)
    heights = true_heights(pairs)
    routes = ([], [])
    pair = (0, 0)
    while pair != (END, END):
        rest = heights[pair] - pairs.gain(pair)
        best = [other for other in pairs.following(pair) if heights[other] == rest][0]
        for route, node, target in zip(routes, pair, best):
            # A lane that waits keeps its node; one that goes on never comes back to it.
            if node != target:
                route.extend(pairs.way(node, target))
        pair = best
    return routes


class Pairs:
    """The pairs of a graph without wild components."""

    def __init__(self, graph, parts):
        self._graph = graph
        self._parts = parts
        self._leaving = [exits(graph, nodes) for nodes in parts.groups]
        # END is treated like a last component, which nothing leaves.
        self._leaving.append([])

    def reachable(self):
        """The list of all pairs."""
        met = {(0, 0): True}
        ahead = [(0, 0)]
        while ahead:
            pair = ahead.pop()
            for other in self.following(pair):
                if other not in met:
                    met[other] = True
                    ahead.append(other)
        return list(met)

    def following(self, pair):
        """The list of the pairs that follow from a pair."""
        first, second = pair
        one = self._component(first)
        other = self._component(second)
        firsts = self._leaving[one] if one <= other else [first]
        seconds = self._leaving[other] if other <= one else [second]
        return [(node, target) for node in firsts for target in seconds]

    def progress(self, pair):
        """A number that is greater for each pair that follows from this one."""
        return self._component(pair[0]) + self._component(pair[1])

    def gain(self, pair):
        """What two lanes that come by these nodes cost in their ring."""
        first, second = pair
        component = self._component(first)
        if first == second or component != self._component(second):
            return 0
        ring = self._parts.rings[component]
        places = [self._parts.position[first], self._parts.position[second]]
        return ring.cost(doors=tuple(sorted(places)))

    def way(self, node, target):
        """The nodes from a node of a component on up to one that leads to that exit."""
        ring = self._parts.rings[self._parts.owner[node]]
        nodes = [node] if ring is None else self._parts.going_round(node, ring.size)
        leading = [target in self._graph.successors(other) for other in nodes]
        return nodes[:leading.index(True) + 1]

    def _component(self, node):
        """The index of the component of a node; END counts as the last one."""
        return len(self._parts.groups) if node == END else self._parts.owner[node]


def check_size(graph):
    """Raise TooLarge if the graph has too many nodes."""
    if graph.size > MOST_NODES:
        raise TooLarge()


def pairs_of(graph):
    """The pairs of a graph, or TooLarge or WildProgram."""
    check_size(graph)
    return Pairs(graph, tame_parts(graph))


def true_heights(pairs):
    """The dict of the true heights of these pairs."""
    heights = {}
    for pair in sorted(pairs.reachable(), key=pairs.progress, reverse=True):
        rests = [heights[other] for other in pairs.following(pair)]
        heights[pair] = pairs.gain(pair) + max(rests, default=0)
    return heights


def is_high_enough(pairs, heights, pair):
    """Tell whether the claimed height of a pair goes with those that follow from it."""
    rests = [heights[other] for other in pairs.following(pair)]
    # Only the pair of two ends has no rests, and it has been looked at.
    return not rests or heights[pair] >= pairs.gain(pair) + max(rests)
