"""Points 9 to 11: rings."""

import unittest
from itertools import combinations

from foreworth.components import components, kinds
from foreworth.errors import BadRing
from foreworth.graph import END, Graph
from foreworth.rings import Ring, ring_of, rings
from tests.samples import TWO_DOORS, random_graphs


def way(prices, first, second):
    """The prices from one position on up to another one, the whole ring if they are equal."""
    total = prices[first]
    place = (first + 1) % len(prices)
    while place != second:
        total += prices[place]
        place = (place + 1) % len(prices)
    return total


class RingTest(unittest.TestCase):
    def test_attributes(self):
        ring = Ring([2, 3, 5], [0, 2])
        self.assertEqual(ring.size, 3)
        self.assertEqual(ring.prices, (2, 3, 5))
        self.assertEqual(ring.doors, (0, 2))
        self.assertEqual(ring.nodes, (0, 1, 2))
        self.assertEqual(Ring([2, 3], [1], nodes=[7, 4]).nodes, (7, 4))
        self.assertEqual(ring.whole(), 10)

    def test_examples_of_the_interface(self):
        self.assertEqual(Ring([2, 3, 5], [0, 1]).gap_after(1), 8)
        self.assertEqual(Ring([2, 3, 5], [0, 1]).cost(), 2)

    def test_far(self):
        ring = Ring([2, 3, 5], [0])
        self.assertEqual(ring.far(0, 0), 0)
        self.assertEqual(ring.far(2, 2), 0)
        self.assertEqual(ring.far(0, 2), 5)
        self.assertEqual(ring.far(2, 0), 5)
        self.assertEqual(ring.far(2, 1), 7)
        self.assertEqual(ring.far(1, 0), 8)

    def test_one_door(self):
        ring = Ring([2, 3, 5], [1])
        self.assertEqual(ring.gap_after(1), 10)
        self.assertEqual(ring.greatest_gap(), 10)
        self.assertEqual(ring.cost(), 0)
        self.assertEqual(ring.start(), 1)
        self.assertEqual(ring.last(), 1)
        ring = Ring([4], [0])
        self.assertEqual((ring.gap_after(0), ring.cost(), ring.start()), (4, 0, 0))

    def test_several_doors(self):
        ring = Ring([2, 3, 5, 1], [0, 2, 3])
        self.assertEqual([ring.gap_after(door) for door in (0, 2, 3)], [5, 5, 1])
        self.assertEqual(ring.greatest_gap(), 5)
        self.assertEqual(ring.cost(), 6)

    def test_the_least_start_of_equal_gaps(self):
        # Gaps of 5 end at door 2 and at door 3; the one that ends at 2 begins at 0.
        ring = Ring([2, 3, 5, 1], [0, 2, 3])
        self.assertEqual((ring.start(), ring.last()), (2, 0))
        # All gaps are equal, and the one that ends at the least door begins at the last.
        ring = Ring([1, 1, 1], [0, 1, 2])
        self.assertEqual((ring.start(), ring.last()), (0, 2))
        self.assertEqual(ring.far(0, 2), ring.cost())

    def test_chosen_doors(self):
        ring = Ring([2, 3, 5, 1], [0, 2, 3])
        self.assertEqual(ring.gap_after(3, doors=(0, 3)), 1)
        self.assertEqual(ring.gap_after(0, doors=(0, 3)), 10)
        self.assertEqual(ring.gap_after(3, doors=(3,)), 11)
        self.assertEqual(ring.greatest_gap(doors=(0, 3)), 10)
        self.assertEqual(ring.cost(doors=(0, 3)), 1)
        self.assertEqual(ring.cost(doors=(2,)), 0)
        self.assertEqual((ring.start(doors=(0, 3)), ring.last(doors=(0, 3))), (3, 0))
        self.assertEqual((ring.start(doors=(2,)), ring.last(doors=(2,))), (2, 2))

    def test_all_sets_of_doors(self):
        for prices in ([1, 1, 1, 1], [3, 1, 2, 5, 1], [2, 7], [1, 2, 3, 1, 2, 3]):
            positions = list(range(len(prices)))
            ring = Ring(prices, positions)
            for many in range(1, len(prices) + 1):
                for doors in combinations(positions, many):
                    gaps = {}
                    for place, door in enumerate(doors):
                        following = doors[(place + 1) % many]
                        gaps[door] = way(prices, door, following)
                        self.assertEqual(ring.gap_after(door, doors=doors), gaps[door])
                    greatest = max(gaps.values())
                    starts = [doors[(place + 1) % many] for place in range(many)
                              if gaps[doors[place]] == greatest]
                    start = ring.start(doors=doors)
                    self.assertEqual(start, min(starts))
                    last = ring.last(doors=doors)
                    self.assertEqual(last, doors[doors.index(start) - 1])
                    cost = ring.cost(doors=doors)
                    self.assertEqual(cost, sum(prices) - greatest)
                    self.assertEqual(cost, ring.far(start, last))
                    self.assertEqual(cost == 0, many == 1)
                    same = Ring(prices, list(doors))
                    self.assertEqual((same.start(), same.last(), same.cost()), (start, last, cost))

    def test_bad_rings(self):
        for prices, doors, nodes in (
            ([], [], None), ([], [0], None), ([1, 0], [0], None), ([1, -2], [0], None),
            ([1, 2], [], None), ([1, 2], [1, 0], None), ([1, 2], [0, 0], None),
            ([1, 2], [2], None), ([1, 2], [-1], None), ([1, 2, 3], [-1, 1], None),
            ([1, 2, 3], [0, 3], None), ([1, 2, 3], [0, 2, 1], None), ([1, 2], [0], [4]),
            ([1, 2], [0], []), ([1, 2], [0], [4, 5, 6]), ([1, 2, 3], [0, 5, 1], None),
        ):
            with self.subTest(prices=prices, doors=doors, nodes=nodes):
                with self.assertRaises(BadRing):
                    Ring(prices, doors, nodes=nodes)

    def test_lists_are_not_shared(self):
        prices, doors, nodes = [2, 3, 5], [0, 1], [4, 5, 6]
        ring = Ring(prices, doors, nodes=nodes)
        prices[0] = 100
        doors.append(2)
        nodes.clear()
        self.assertEqual((ring.prices, ring.doors, ring.nodes), ((2, 3, 5), (0, 1), (4, 5, 6)))
        self.assertEqual((ring.whole(), ring.cost(), ring.far(0, 1)), (10, 2, 2))


class RingsOfGraphsTest(unittest.TestCase):
    def test_two_doors(self):
        found = rings(Graph(TWO_DOORS))
        self.assertEqual(len(found), 1)
        self.assertEqual((found[0].nodes, found[0].prices), ((1, 2), (4, 3)))
        self.assertEqual(found[0].doors, (0, 1))

    def test_positions_follow_the_edges(self):
        graph = Graph([("a", 1, (3,)), ("b", 2, (2, END)), ("c", 3, (4,)), ("d", 4, (1,)),
                       ("e", 5, (3, 3))])
        ring = ring_of(graph, [4, 3, 2, 1])
        self.assertEqual(ring.nodes, (1, 2, 4, 3))
        self.assertEqual(ring.prices, (2, 3, 5, 4))
        self.assertEqual(ring.doors, (3,))

    def test_a_ring_with_node_0_has_one_door(self):
        graph = Graph([("a", 1, (1,)), ("b", 2, (2, END)), ("c", 3, (0,))])
        self.assertEqual(ring_of(graph, [0, 1, 2]).doors, (0,))
        self.assertEqual(rings(Graph([("a", 5, (0, END))]))[0].prices, (5,))

    def test_other_components_are_passed_over(self):
        self.assertEqual(rings(Graph([("a", 1, (END,))])), [])
        graph = Graph([("a", 1, (0, 1)), ("b", 1, (2, 1, 3)), ("c", 1, (1,)), ("d", 1, (3, END))])
        self.assertEqual([ring.nodes for ring in rings(graph)], [(0,), (3,)])

    def test_order_of_components(self):
        graph = Graph([("a", 1, (3, 2)), ("b", 1, (1, END)), ("c", 1, (2, END)), ("d", 1, (3, 1))])
        self.assertEqual([ring.nodes for ring in rings(graph)], [(2,), (3,), (1,)])

    def test_doors_are_entered_from_outside(self):
        for graph in random_graphs(150):
            found = []
            for nodes, kind in zip(components(graph), kinds(graph)):
                if kind == "ring":
                    ring = ring_of(graph, nodes)
                    found.append((ring.nodes, ring.prices, ring.doors))
                    self.assertEqual(ring.nodes[0], min(nodes))
                    self.assertEqual(sorted(ring.nodes), nodes)
                    for place, node in enumerate(ring.nodes):
                        following = ring.nodes[(place + 1) % ring.size]
                        self.assertIn(following, graph.successors(node))
                        entered = node == 0 or any(
                            node in graph.successors(other)
                            for other in range(graph.size) if other not in nodes)
                        self.assertEqual(place in ring.doors, entered)
            told = [(ring.nodes, ring.prices, ring.doors) for ring in rings(graph)]
            self.assertEqual(told, found)


if __name__ == "__main__":
    unittest.main()
