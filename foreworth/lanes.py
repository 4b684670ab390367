"""The lanes of adversaries: what is decided of their runs, and the beats that move them."""

from foreworth.errors import BadNode, NotOver, NotStanding
from foreworth.graph import END


class Leg:
    """A part of a run: its nodes, again and again, until there are `length` of them.

    The length is None as long as it is not known. `decided` counts the nodes of the leg
    that the lane is bound to execute.
    """

    def __init__(self, nodes, length):
        self.nodes = nodes
        self.length = length
        self.decided = 0


class Lane:
    """A run that is decided node by node, and how many of its nodes are executed."""

    def __init__(self, legs):
        self.nodes = []
        self.executed = 0
        self.legs = legs
        self._passed = 0

    def decide(self, many):
        """Decide nodes until there are so many of them, or until the lane ends."""
        while len(self.nodes) < many and self._passed < len(self.legs):
            leg = self.legs[self._passed]
            if leg.decided == leg.length:
                self._passed += 1
            else:
                self.nodes.append(leg.nodes[leg.decided % len(leg.nodes)])
                leg.decided += 1


class Field:
    """The lanes of an adversary, the node or END of each, and the beats so far."""

    def __init__(self, graph, lanes, sight):
        self.lanes = lanes
        self.places = []
        self.beats = []
        self._size = graph.size
        self._sight = sight
        self.decide()

    def decide(self):
        """Decide for each lane where it stands and what it is shown, and no more."""
        for lane in self.lanes:
            lane.decide(lane.executed + 1 + self._sight)
        self.places = [place_of(lane) for lane in self.lanes]

    def moving(self, node, lanes):
        """The ascending list of the lanes that a beat moves, or the error of the beat."""
        if not 0 <= node < self._size:
            raise BadNode(node)
        there = [lane for lane, place in enumerate(self.places) if place == node]
        found = there if lanes is None else sorted(set(lanes))
        if not found or any([lane not in there for lane in found]):
            raise NotStanding(node)
        return found

    def move(self, node, moving):
        """Let the lanes execute the node at which they stand."""
        for lane in moving:
            self.lanes[lane].executed += 1
        self.beats.append(node)

    def ahead(self):
        """The list with, for each lane, what it is shown."""
        return [lane.nodes[lane.executed + 1:] for lane in self.lanes]

    def whole_runs(self):
        """The runs of the lanes, or NotOver if one of them has not ended."""
        if any([place != END for place in self.places]):
            raise NotOver()
        return [list(lane.nodes) for lane in self.lanes]


def place_of(lane):
    """The node at which a lane stands, or END behind the last one."""
    return lane.nodes[lane.executed] if lane.executed < len(lane.nodes) else END
