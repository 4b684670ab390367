"""Rings: prices that go round, with doors at which lanes come in."""

from foreworth.components import components, internal_successors, kind_of
from foreworth.errors import BadRing


class Ring:
    """A ring of positions, with the price and the node of each, and its doors."""

    def __init__(self, prices, doors, *, nodes=None):
        check_ring(prices, doors, nodes)
        self.size = len(prices)
        self.prices = tuple(prices)
        self.doors = tuple(doors)
        self.nodes = tuple(range(len(prices))) if nodes is None else tuple(nodes)
        self._sums = sums_before(prices)

    def whole(self):
        """The price of the whole ring."""
        return self._sums[-1]

    def far(self, first, second):
        """The price of the way from one position on up to another one without it."""
        way = self._sums[second] - self._sums[first]
        return way if first <= second else way + self.whole()

    def gap_after(self, door, *, doors=None):
        """The gap after a door of the chosen doors."""
        chosen = self._chosen(doors)
        return self._gaps(chosen)[chosen.index(door)]

    def greatest_gap(self, *, doors=None):
        """The greatest gap of the chosen doors."""
        return max(self._gaps(self._chosen(doors)))

    def cost(self, *, doors=None):
        """The price of the whole ring without the greatest gap of the chosen doors."""
        return self.whole() - self.greatest_gap(doors=doors)

    def start(self, *, doors=None):
        """The least of the chosen doors at which a greatest gap ends."""
        chosen = self._chosen(doors)
        return chosen[self._place_of_start(chosen)]

    def last(self, *, doors=None):
        """The door after which the gap begins that ends at the start."""
        chosen = self._chosen(doors)
        return chosen[self._place_of_start(chosen) - 1]

    def _chosen(self, doors):
        return self.doors if doors is None else doors

    def _gaps(self, chosen):
        """The list of the gaps after the chosen doors, in their order."""
        if len(chosen) == 1:
            return [self.whole()]
        following = [*chosen[1:], chosen[0]]
        return [self.far(door, other) for door, other in zip(chosen, following)]

    def _place_of_start(self, chosen):
        """The place of the start among the chosen doors."""
        gaps = self._gaps(chosen)
        ending = [gaps[-1], *gaps[:-1]]
        return ending.index(max(gaps))


def check_ring(prices, doors, nodes):
    """Raise BadRing if these make no ring."""
    if not prices or min(prices) < 1 or not doors:
        raise BadRing()
    if doors[0] < 0 or doors[-1] >= len(prices):
        raise BadRing()
    if any(door >= other for door, other in zip(doors, doors[1:])):
        raise BadRing()
    if nodes is not None and len(nodes) != len(prices):
        raise BadRing()


def sums_before(prices):
    """The list of the sums of all beginnings of the prices, the empty one first."""
    sums = [0]
    for price in prices:
        sums.append(sums[-1] + price)
    return sums


def ring_of(graph, nodes):
    """The ring of the ring component with these nodes."""
    inside = {node: True for node in nodes}
    order = [min(nodes)]
    while len(order) < len(nodes):
        order.append(internal_successors(graph, order[-1], inside)[0])
    entered = entered_nodes(graph, inside)
    doors = [place for place, node in enumerate(order) if node in entered]
    return Ring([graph.price(node) for node in order], doors, nodes=order)


def entered_nodes(graph, inside):
    """A dict whose keys are node 0 and the nodes with an edge from a node not inside."""
    entered = {0: True}
    for node, row in enumerate(graph):
        if node not in inside:
            for target in row[2]:
                entered[target] = True
    return entered


def rings(graph):
    """The list of the rings of all ring components, in the order of the components."""
    return [ring_of(graph, nodes) for nodes in components(graph) if kind_of(graph, nodes) == "ring"]
