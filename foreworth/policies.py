"""Plain policies: objects that name the node of each next beat."""

from foreworth.graph import END


class LeastNode:
    """Names the least node at which a lane stands."""

    def pick(self, standing, *, shown=None):
        """The node of the next beat."""
        return nodes_with_lanes(standing)[0]


class MostLanes:
    """Names the node at which most lanes stand, the least one of these."""

    def pick(self, standing, *, shown=None):
        """The node of the next beat."""
        nodes = nodes_with_lanes(standing)
        many = [standing.count(node) for node in nodes]
        return nodes[many.index(max(many))]


class ByRow:
    """Names by each number of a row one of the nodes at which lanes stand."""

    def __init__(self, row):
        self._row = list(row)
        self._asked = 0

    def pick(self, standing, *, shown=None):
        """The node of the next beat."""
        nodes = nodes_with_lanes(standing)
        number = self._row[self._asked] if self._asked < len(self._row) else 0
        node = nodes[number % len(nodes)]
        self._asked += 1
        return node


class Peek:
    """Names the least node to which no lane that stands elsewhere is shown to come."""

    def pick(self, standing, *, shown=None):
        """The node of the next beat."""
        nodes = nodes_with_lanes(standing)
        if shown is not None:
            for node in nodes:
                others = [ahead for place, ahead in zip(standing, shown) if place != node]
                if not any([node in ahead for ahead in others]):
                    return node
        return nodes[0]


class Fixed:
    """Names the numbers of a row, whatever stands there, and END behind them."""

    def __init__(self, row):
        self._row = list(row)
        self._asked = 0

    def pick(self, standing, *, shown=None):
        """The node of the next beat."""
        number = self._row[self._asked] if self._asked < len(self._row) else END
        self._asked += 1
        return number


def nodes_with_lanes(standing):
    """The ascending list of the distinct nodes at which lanes stand."""
    return sorted({node for node in standing if node != END})
