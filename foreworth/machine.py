"""Machines: the lanes of a team, moved by one beat at a time."""

from foreworth.errors import BadNode, NotStanding
from foreworth.graph import END
from foreworth.runs import check_team


class Machine:
    """A team on its way through a graph, and the bill so far."""

    def __init__(self, graph, runs):
        check_team(graph, runs)
        self.bill = 0
        self._graph = graph
        self._runs = [list(run) for run in runs]
        self._done = [0] * len(runs)
        self._beats = []

    @property
    def over(self):
        """Whether all lanes have ended."""
        return all([many == len(run) for many, run in zip(self._done, self._runs)])

    def standing(self):
        """The list with, for each lane, the node at which it stands, or END."""
        return [self._place_of(lane) for lane in range(len(self._runs))]

    def done(self):
        """The list with, for each lane, how many nodes it has executed."""
        return list(self._done)

    def at(self, node):
        """The ascending list of the lanes that stand at the node."""
        return [lane for lane in range(len(self._runs)) if self._place_of(lane) == node]

    def schedule(self):
        """The list of the nodes of the beats so far."""
        return list(self._beats)

    def beat(self, node, *, lanes=None):
        """Move the lanes that stand at the node, or the listed ones; tell who moved."""
        if not 0 <= node < self._graph.size:
            raise BadNode(node)
        moving = self.at(node)
        if lanes is not None:
            if any([lane not in moving for lane in lanes]):
                raise NotStanding(node)
            moving = sorted(set(lanes))
        for lane in moving:
            self._done[lane] += 1
        self._beats.append(node)
        self.bill += self._graph.price(node)
        return moving

    def _place_of(self, lane):
        """The node at which a lane stands, or END."""
        run = self._runs[lane]
        return run[self._done[lane]] if self._done[lane] < len(run) else END
