"""Ledgers: the losses of the teams of a graph."""

from foreworth.errors import MixedGraphs
from foreworth.least import loss
from foreworth.runs import check_team


class Ledger:
    """The losses of teams of one graph, in the order of adding."""

    def __init__(self, graph):
        self._graph = graph
        self._losses = []

    @property
    def total(self):
        """The sum of the losses."""
        return sum(self._losses)

    @property
    def worst(self):
        """The greatest loss, 0 if there is none."""
        return max(self._losses, default=0)

    def add(self, runs, schedule):
        """Keep and tell the loss of a complete schedule of a team."""
        check_team(self._graph, runs)
        lost = loss(self._graph, runs, schedule)
        self._losses.append(lost)
        return lost

    def losses(self):
        """The list of the losses."""
        return list(self._losses)

    def __iter__(self):
        return iter(self._losses)

    def __add__(self, other):
        if list(self._graph) != list(other._graph):
            raise MixedGraphs()
        both = Ledger(self._graph)
        both._losses = [*self._losses, *other._losses]
        return both
