"""Policies that go round in each ring, from one place or another."""

from foreworth.errors import BadDoors
from foreworth.graph import END
from foreworth.parts import tame_parts


class RoundFrom:
    """Goes round from told nodes, and behind the greatest gap where none is told."""

    def __init__(self, graph, nodes):
        parts = tame_parts(graph)
        self._told = told_positions(parts, nodes)
        self._rounds = Rounds(parts)

    def pick(self, standing, *, shown=None):
        """The node of the next beat."""
        component = self._rounds.component_at(standing)
        ring = self._rounds.new_ring(component)
        if ring is not None:
            self._rounds.begin(component, self._told.get(component, ring.start()))
        return self._rounds.name_next(component, standing)


class BehindGap:
    """Goes round behind the greatest gap of all doors."""

    def __init__(self, graph):
        self._rounds = Rounds(tame_parts(graph))

    def pick(self, standing, *, shown=None):
        """The node of the next beat."""
        component = self._rounds.component_at(standing)
        ring = self._rounds.new_ring(component)
        if ring is not None:
            self._rounds.begin(component, ring.start())
        return self._rounds.name_next(component, standing)


class BehindNow:
    """Goes round behind the greatest gap of the doors at which lanes stand at first."""

    def __init__(self, graph):
        self._rounds = Rounds(tame_parts(graph))

    def pick(self, standing, *, shown=None):
        """The node of the next beat."""
        component = self._rounds.component_at(standing)
        ring = self._rounds.new_ring(component)
        if ring is not None:
            doors = [door for door in ring.doors if ring.nodes[door] in standing]
            self._rounds.begin(component, ring.start(doors=tuple(doors or ring.doors)))
        return self._rounds.name_next(component, standing)


class Rounds:
    """The places that a policy keeps in rings: where it goes on looking for lanes."""

    def __init__(self, parts):
        self._parts = parts
        self._places = {}

    def component_at(self, standing):
        """The first component at which a lane stands."""
        return min([self._parts.owner[node] for node in standing if node != END])

    def new_ring(self, component):
        """The ring of the component if no place in it is kept yet, otherwise None."""
        return None if component in self._places else self._parts.rings[component]

    def begin(self, component, place):
        """Keep the first place in a ring."""
        self._places[component] = place

    def name_next(self, component, standing):
        """The node to name in the component; in a ring the place behind it is kept."""
        ring = self._parts.rings[component]
        if ring is None:
            return self._parts.groups[component][0]
        place = self._places[component]
        ways = [(self._parts.position[node] - place) % ring.size for node in standing
                if node != END and self._parts.owner[node] == component]
        found = (place + min(ways)) % ring.size
        self._places[component] = (found + 1) % ring.size
        return ring.nodes[found]


def told_positions(parts, nodes):
    """A dict from the components of the told nodes to their positions, or BadDoors."""
    told = {}
    for node in nodes:
        if node not in parts.position or parts.owner[node] in told:
            raise BadDoors()
        told[parts.owner[node]] = parts.position[node]
    return told
