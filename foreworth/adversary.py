"""The ring adversary: it decides during the play how often its lanes go round."""

from foreworth.graph import END
from foreworth.helper import length_from
from foreworth.lanes import Field, Lane, Leg
from foreworth.parts import tame_parts
from foreworth.routes import met_by_component, shortened


class RingAdversary:
    """Lanes with given routes, against which every scheduler loses the route cost."""

    def __init__(self, graph, routes, *, sight=0):
        parts = tame_parts(graph)
        self.bill = 0
        self.sight = sight
        self._graph = graph
        self._owner = parts.owner
        self._contests = {}
        lanes = self._lanes_on(parts, [shortened(parts, run) for run in routes])
        for component in list(self._contests):
            self._close_if_due(component)
        self._field = Field(graph, lanes, sight)

    @property
    def over(self):
        """Whether all lanes have ended."""
        return all([place == END for place in self._field.places])

    def beat(self, node, *, lanes=None):
        """Move the lanes that stand at the node, or the listed ones; tell who moved."""
        moving = self._field.moving(node, lanes)
        price = self._graph.price(node)
        component = self._owner[node]
        self._field.move(node, moving)
        self.bill += price
        if component in self._contests:
            self._contests[component].pay(price, moving)
            self._close_if_due(component)
        self._field.decide()
        return moving

    def standing(self):
        """The list with, for each lane, the node at which it stands, or END."""
        return list(self._field.places)

    def shown(self):
        """The list with, for each lane, the nodes that it is shown."""
        return self._field.ahead()

    def schedule(self):
        """The list of the nodes of the beats so far."""
        return list(self._field.beats)

    def runs(self):
        """The runs of the lanes, which are told when all of them have ended."""
        return self._field.whole_runs()

    def _lanes_on(self, parts, routes):
        """The lanes of the routes; each ring to which they come has its contest."""
        for component, doors in enumerate(met_by_component(parts, routes)):
            if doors:
                self._contests[component] = Contest(parts.rings[component], tuple(doors))
        lanes = []
        for number, route in enumerate(routes):
            legs = []
            for component, nodes in parts.stretches(route):
                legs.append(Leg(nodes, len(nodes)))
                if component in self._contests:
                    rounds = parts.going_round(nodes[0], parts.rings[component].size)
                    self._contests[component].welcome(number, legs[-1], rounds)
            lanes.append(Lane(legs))
        return lanes

    def _close_if_due(self, component):
        """Close a ring if its goal is reached, and forget its contest."""
        if self._contests[component].is_due():
            self._contests[component].close()
            del self._contests[component]


class Contest:
    """A ring whose holders go round until the bill there has reached the goal."""

    def __init__(self, ring, doors):
        self._size = ring.size
        self._goal = ring.cost(doors=doors)
        self._paid = 0
        # By the numbers of lanes: the legs of all that come to the ring; the lengths in
        # their routes and the prices of what they have executed there, of the holders.
        self._legs = {}
        self._lengths = {}
        self._spent = {}
        self._doors = {}

    def welcome(self, lane, leg, rounds):
        """Let a lane come to the ring; it holds its door if it is the first one there."""
        self._legs[lane] = leg
        if rounds[0] not in self._doors:
            self._doors[rounds[0]] = True
            self._lengths[lane] = leg.length
            self._spent[lane] = 0
            leg.nodes = rounds
            leg.length = None

    def pay(self, price, moving):
        """Count a beat in the ring, by which these lanes moved."""
        self._paid += price
        for lane in moving:
            if lane in self._spent:
                self._spent[lane] += price

    def is_due(self):
        """Tell whether the goal is reached."""
        return self._paid - min(list(self._spent.values())) >= self._goal

    def close(self):
        """Let the holders leave, except the one that has spent least, which stays."""
        _, staying = min([(spent, lane) for lane, spent in self._spent.items()])
        for lane in self._spent:
            if lane != staying:
                self._end_behind(lane, 1)
        others = [leg.length for lane, leg in self._legs.items() if lane != staying]
        self._end_behind(staying, self._size + max(others, default=0))

    def _end_behind(self, lane, least):
        """Give a holder the least length that fits its route, not below `least` nor what is decided."""
        leg = self._legs[lane]
        leg.length = length_from(max(least, leg.decided), self._lengths[lane], self._size)
