"""The wild adversary: two lanes with different loops through one node."""

from foreworth.errors import NoWild
from foreworth.graph import END
from foreworth.lanes import Field, Lane, Leg
from foreworth.papers import worth_paper
from foreworth.paths import shortest_path


class WildAdversary:
    """Two lanes against which every scheduler loses the target."""

    def __init__(self, graph, target, *, sight=0):
        paper = worth_paper(graph)
        if paper[0] != "endless":
            raise NoWild()
        self.bill = 0
        self.sight = sight
        self._graph = graph
        self._target = target
        self._lone = [0, 0]
        self._loops = [Leg(nodes, None) for nodes in paper[1:]]
        node = paper[1][-1]
        way_in = shortest_path(graph, 0, node)
        self._way_out = shortest_path(graph, node, END)[1:]
        lanes = [Lane([Leg(way_in, len(way_in)), loop]) for loop in self._loops]
        self._field = Field(graph, lanes, sight)

    @property
    def over(self):
        """Whether both lanes have ended."""
        return all([place == END for place in self._field.places])

    def beat(self, node, *, lanes=None):
        """Move the lanes that stand at the node, or the listed ones; tell who moved."""
        moving = self._field.moving(node, lanes)
        price = self._graph.price(node)
        self._field.move(node, moving)
        self.bill += price
        # A loop without a length tells that the adversary has not closed yet.
        if len(moving) == 1 and self._loops[0].length is None:
            self._lone[moving[0]] += price
            if self._lone[moving[0]] >= self._target:
                self._close(moving[0])
        self._field.decide()
        return moving

    def standing(self):
        """The list with, for each lane, the node at which it stands, or END."""
        return list(self._field.places)

    def shown(self):
        """The list with, for each lane, the nodes that it is shown."""
        return self._field.ahead()

    def schedule(self):
        """The list of the nodes of the beats so far."""
        return list(self._field.beats)

    def runs(self):
        """The runs of the lanes, which are told when both of them have ended."""
        return self._field.whole_runs()

    def _close(self, first):
        """Let the lane that reached the target end, and the other one do all of it, too."""
        for loop in self._loops:
            size = len(loop.nodes)
            loop.length = (loop.decided + size - 1) // size * size
        loop = self._loops[first]
        other = self._field.lanes[1 - first]
        other.legs.append(Leg(loop.nodes, loop.length))
        for lane in self._field.lanes:
            lane.legs.append(Leg(self._way_out, len(self._way_out)))
