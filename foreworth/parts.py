"""The components of a graph with their kinds and rings, looked up once."""

from foreworth.components import component_of, components, kind_of
from foreworth.errors import WildProgram
from foreworth.rings import ring_of


class Parts:
    """The components of a graph: the nodes, the kind and the ring (or None) of each.

    `owner` has the index of the component of each node, `position` is a dict from
    the nodes of rings to their positions.
    """

    def __init__(self, graph):
        self.groups = components(graph)
        self.owner = component_of(graph)
        self.kinds = [kind_of(graph, nodes) for nodes in self.groups]
        self.rings = []
        self.position = {}
        for nodes, kind in zip(self.groups, self.kinds):
            ring = ring_of(graph, nodes) if kind == "ring" else None
            self.rings.append(ring)
            if ring is not None:
                for position, node in enumerate(ring.nodes):
                    self.position[node] = position

    def wild_nodes(self):
        """The nodes of the first wild component, or None if there is none."""
        if "wild" not in self.kinds:
            return None
        return self.groups[self.kinds.index("wild")]

    def stretches(self, run):
        """The stretches of a run, pairs of a component and a list of nodes."""
        found = []
        for node in run:
            if not found or found[-1][0] != self.owner[node]:
                found.append((self.owner[node], []))
            found[-1][1].append(node)
        return found

    def visits(self, runs):
        """The list with, for each component, the nodes of all stretches there."""
        found = [[] for nodes in self.groups]
        for run in runs:
            for component, nodes in self.stretches(run):
                found[component].append(nodes)
        return found

    def stay(self, nodes):
        """The stay that a stretch in a ring is."""
        return (self.position[nodes[0]], len(nodes))

    def going_round(self, node, many):
        """So many nodes of a ring, going round from the given one."""
        ring = self.rings[self.owner[node]]
        first = self.position[node]
        return [ring.nodes[place % ring.size] for place in range(first, first + many)]


def tame_parts(graph):
    """The parts of a graph, or WildProgram if it has a wild component."""
    parts = Parts(graph)
    wild = parts.wild_nodes()
    if wild is not None:
        raise WildProgram(wild[0])
    return parts
