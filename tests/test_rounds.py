"""Points 60 and 61: going round in rings."""

import unittest
from random import Random

from foreworth.components import components
from foreworth.errors import BadDoors, WildProgram
from foreworth.graph import END, Graph
from foreworth.least import loss, loss_by_component
from foreworth.rings import Ring, rings
from foreworth.rounds import BehindGap, BehindNow, RoundFrom
from foreworth.routes import doors_met, route_cost
from foreworth.worth import worth
from tests.playing import played
from tests.samples import (
    THREE_RINGS, TWO_DOORS, WILD, random_runs, ring_graph, ring_run, tame_graphs)

# A ring of nodes 1 to 5 with prices 2, 3, 5, 1 and 4 and doors at the nodes 1, 3 and 4:
# the gaps are 5, 5 and 5, so the greatest gap ends at node 1.
EVEN = Ring([2, 3, 5, 1, 4], [0, 2, 3])
# The same one with another price: the gap of 9 behind node 1 ends at node 3.
UNEVEN = Ring([6, 3, 5, 1, 4], [0, 2, 3])


class SlowRounds:
    """Points 60 and 61, node by node; `first` tells the node at which to begin in a ring."""

    def __init__(self, graph, first):
        self.graph = graph
        self.first = first
        self.places = {}

    def pick(self, standing, *, shown=None):
        nodes = next(nodes for nodes in components(self.graph) if set(nodes) & set(standing))
        ring = next((ring for ring in rings(self.graph) if ring.nodes[0] in nodes), None)
        if ring is None:
            return nodes[0]
        place = self.places.get(ring.nodes, self.first(ring, standing))
        while ring.nodes[place] not in standing:
            place = (place + 1) % ring.size
        self.places[ring.nodes] = (place + 1) % ring.size
        return ring.nodes[place]


def first_now(ring, standing):
    """The start of the doors at which lanes stand, of all doors if there is none."""
    doors = [door for door in ring.doors if ring.nodes[door] in standing]
    return ring.start(doors=tuple(doors) if doors else None)


class RoundFromTest(unittest.TestCase):
    def test_told_node(self):
        graph = ring_graph(EVEN)
        for node, told in ((1, 1), (2, 3), (3, 3), (4, 4), (5, 1)):
            self.assertEqual(RoundFrom(graph, [node]).pick([4, 1, 3]), told)

    def test_no_told_node(self):
        self.assertEqual(RoundFrom(ring_graph(EVEN), []).pick([4, 1, 3]), 1)
        self.assertEqual(RoundFrom(ring_graph(UNEVEN), []).pick([4, 1, 3]), 3)

    def test_the_place_goes_on(self):
        policy = RoundFrom(ring_graph(EVEN), [3])
        self.assertEqual(policy.pick([3, 1]), 3)
        # The place is node 4 now, and node 3 comes last.
        self.assertEqual(policy.pick([3, 1]), 1)
        self.assertEqual(policy.pick([3, 1]), 3)
        self.assertEqual(policy.pick([5, 4]), 4)
        self.assertEqual(policy.pick([5, 4]), 5)
        # It has gone round, and looks on from node 1.
        self.assertEqual(policy.pick([5, 2]), 2)
        self.assertEqual(policy.pick([2, 2]), 2)
        self.assertEqual(policy.pick([2, 3, END]), 3)

    def test_a_lane_that_goes_round(self):
        policy = RoundFrom(ring_graph(EVEN), [4])
        told = [policy.pick([node]) for node in (4, 5, 1, 2, 3, 4, 5, 1)]
        self.assertEqual(told, [4, 5, 1, 2, 3, 4, 5, 1])

    def test_the_first_component_at_which_a_lane_stands(self):
        graph = Graph(THREE_RINGS)
        policy = RoundFrom(graph, [4])
        self.assertEqual(policy.pick([5, 6, 4, 1, END]), 1)
        self.assertEqual(policy.pick([5, 6, 4, 3, END]), 4)
        self.assertEqual(policy.pick([5, 6, 4, 3, END]), 3)
        self.assertEqual(policy.pick([5, 6, END, END, 6]), 5)
        self.assertEqual(policy.pick([END, 6, END, END, 6]), 6)
        # Components are told apart by their order, not by their least nodes.
        graph = Graph([("a", 1, (3, 2)), ("b", 1, (END,)), ("c", 1, (END,)), ("d", 1, (1,))])
        policy = RoundFrom(graph, [])
        self.assertEqual([policy.pick([1, 3, 2]), policy.pick([1, 3]), policy.pick([1])], [2, 3, 1])

    def test_the_place_is_taken_at_the_first_pick_in_the_ring(self):
        graph = Graph(THREE_RINGS)
        policy = RoundFrom(graph, [3])
        self.assertEqual(policy.pick([0, 4]), 0)
        self.assertEqual(policy.pick([4, 2]), 4)
        # A place is kept while the policy works in another component.
        self.assertEqual(policy.pick([0, 4]), 0)
        self.assertEqual(policy.pick([4, 3]), 3)
        self.assertEqual(policy.pick([4, 3]), 4)

    def test_what_is_shown_does_not_matter(self):
        policy = RoundFrom(ring_graph(EVEN), [3])
        self.assertEqual(policy.pick([3, 1], shown=[[4], [3, 4]]), 3)
        self.assertEqual(policy.pick([3, 1], shown=[[], []]), 1)

    def test_bad_doors(self):
        graph = Graph(THREE_RINGS)
        for nodes in ([5], [-1], [7], [99], [-2], [0, 1], [3, 3], [2, 6, 4], [2, 5], [1, 3, 0]):
            with self.assertRaises(BadDoors):
                RoundFrom(graph, nodes)
        for nodes in ([], [0], [1], [6, 3, 0], [4]):
            RoundFrom(graph, nodes)
        with self.assertRaises(BadDoors):
            RoundFrom(Graph(TWO_DOORS), [0])

    def test_wild_program_comes_first(self):
        for nodes in ([], [0], [1], [-1], [1, 1]):
            with self.assertRaises(WildProgram) as caught:
                RoundFrom(Graph(WILD), nodes)
            self.assertEqual(caught.exception.node, 1)
        for policy in (BehindGap, BehindNow):
            with self.assertRaises(WildProgram) as caught:
                policy(Graph(WILD))
            self.assertEqual(caught.exception.node, 1)

    def test_policies_share_nothing(self):
        graph = ring_graph(EVEN)
        nodes = [3]
        one, other = RoundFrom(graph, nodes), RoundFrom(graph, nodes)
        nodes.clear()
        standing = [3, 1]
        self.assertEqual([one.pick(standing), one.pick(standing)], [3, 1])
        self.assertEqual([other.pick(standing), other.pick(standing)], [3, 1])
        self.assertEqual(standing, [3, 1])
        for kind in (BehindGap, BehindNow):
            one, other = kind(graph), kind(graph)
            self.assertEqual([one.pick(standing), one.pick(standing), one.pick(standing)],
                             [other.pick(standing), other.pick(standing), other.pick(standing)])


class BehindGapTest(unittest.TestCase):
    def test_first_place(self):
        self.assertEqual(BehindGap(ring_graph(EVEN)).pick([4, 1, 3]), 1)
        self.assertEqual(BehindGap(ring_graph(UNEVEN)).pick([4, 1, 3]), 3)
        self.assertEqual(BehindGap(ring_graph(UNEVEN)).pick([4, 1, 2]), 4)

    def test_it_is_going_round_without_told_nodes(self):
        for graph in tame_graphs(60, most=10):
            runs = random_runs(graph, 4)
            self.assertEqual(played(graph, runs, BehindGap(graph)),
                             played(graph, runs, RoundFrom(graph, [])))


class BehindNowTest(unittest.TestCase):
    def test_first_place(self):
        # The doors of nodes 3 and 4 have gaps of 5 and 10, so the greatest one ends at 3.
        graph = ring_graph(EVEN)
        self.assertEqual(BehindNow(graph).pick([4, 3]), 3)
        self.assertEqual(BehindNow(graph).pick([4]), 4)
        # Doors 1 and 4 have gaps of 10 and 5: the greatest one ends at 4.
        self.assertEqual(BehindNow(graph).pick([1, 4]), 4)
        self.assertEqual(BehindNow(graph).pick([1, 4, 3]), 1)
        # Lanes elsewhere do not count, neither in the ring nor behind it.
        self.assertEqual(BehindNow(graph).pick([1, 4, 2, END]), 4)
        # Doors without lanes do not count: behind node 1 there are 11 up to node 3.
        self.assertEqual(BehindNow(ring_graph(Ring([1, 10, 1, 1], [0, 1, 2, 3]))).pick([1, 3]), 3)

    def test_only_the_first_pick_counts(self):
        policy = BehindNow(ring_graph(EVEN))
        self.assertEqual([policy.pick([1, 4]), policy.pick([1, 5]), policy.pick([1, 4])], [4, 5, 1])

    def test_no_lane_stands_at_a_door(self):
        # The set of all doors begins at node 1, or at node 3.
        self.assertEqual(BehindNow(ring_graph(EVEN)).pick([5, 2]), 2)
        self.assertEqual(BehindNow(ring_graph(UNEVEN)).pick([5, 2]), 5)
        self.assertEqual(BehindNow(ring_graph(UNEVEN)).pick([2, END]), 2)

    def test_each_ring_has_its_own_first_pick(self):
        graph = Graph(THREE_RINGS)
        policy = BehindNow(graph)
        self.assertEqual(policy.pick([0, 4, 3]), 0)
        # Doors 3 and 4 of the prices 4, 1, 6: the gap of 10 ends at node 3.
        self.assertEqual(policy.pick([4, 3]), 3)
        self.assertEqual(policy.pick([4, 2]), 4)


class SlowRoundsTest(unittest.TestCase):
    def check(self, graph, runs):
        told = [ring.nodes[-1] for ring in rings(graph)]
        policies = [
            (BehindGap(graph), lambda ring, standing: ring.start()),
            (BehindNow(graph), first_now),
            (RoundFrom(graph, told), lambda ring, standing: ring.size - 1),
        ]
        for policy, first in policies:
            self.assertEqual(played(graph, runs, policy),
                             played(graph, runs, SlowRounds(graph, first)))

    def test_random_graphs(self):
        for graph in tame_graphs(60, most=10):
            self.check(graph, random_runs(graph, 5))

    def test_random_rings(self):
        source = Random(71)
        for _ in range(60):
            size = source.randint(2, 7)
            prices = [source.randint(1, 9) for _ in range(size)]
            ring = Ring(prices, sorted(source.sample(range(size), source.randint(2, size))))
            self.check(ring_graph(ring), [ring_run(ring, source.choice(ring.doors), source.randint(1, 15))
                                          for _ in range(source.randint(1, 4))])


class FactsTest(unittest.TestCase):
    def check(self, graph, runs):
        index = {nodes[0]: at for at, nodes in enumerate(components(graph))}
        for policy in (BehindGap(graph), BehindNow(graph)):
            schedule = played(graph, runs, policy)
            losses = loss_by_component(graph, runs, schedule)
            for ring, doors in zip(rings(graph), doors_met(graph, runs)):
                if isinstance(policy, BehindNow) and doors:
                    most = ring.cost(doors=tuple(doors))
                else:
                    most = ring.cost()
                self.assertLessEqual(losses[index[min(ring.nodes)]], most)
        self.assertLessEqual(loss(graph, runs, played(graph, runs, BehindGap(graph))), worth(graph))
        self.assertLessEqual(loss(graph, runs, played(graph, runs, BehindNow(graph))),
                             route_cost(graph, runs))
        for ring, doors in zip(rings(graph), doors_met(graph, runs)):
            for position in range(ring.size):
                schedule = played(graph, runs, RoundFrom(graph, [ring.nodes[position]]))
                losses = loss_by_component(graph, runs, schedule)
                most = max((ring.far(position, door) for door in doors), default=0)
                self.assertLessEqual(losses[index[min(ring.nodes)]], most)

    def test_random_graphs(self):
        for graph in tame_graphs(120, most=10):
            self.check(graph, random_runs(graph, 5))

    def test_rings(self):
        for ring in (EVEN, UNEVEN):
            graph = ring_graph(ring)
            for lengths in ((1, 1, 1), (5, 9, 2), (3, 3, 14), (12, 1, 7)):
                self.check(graph, [ring_run(ring, door, length)
                                   for door, length in zip(ring.doors, lengths)])


if __name__ == "__main__":
    unittest.main()
