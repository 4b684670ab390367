"""Points 38 and 39: the worth of foresight."""

import unittest

from foreworth.components import components, kinds
from foreworth.graph import END, Graph
from foreworth.rings import Ring
from foreworth.worth import is_worthless, worth
from tests.samples import THREE_RINGS, TWO_DOORS, WILD, random_graphs, ring_graph, tame_graphs


def slow_worth(graph):
    """The worth by points 7, 9, 11 and 38 alone."""
    total = 0
    for nodes, kind in zip(components(graph), kinds(graph)):
        if kind == "wild":
            return None
        if kind == "ring":
            doors = {node for node in nodes if node == 0 or any(
                node in graph.successors(other)
                for other in range(graph.size) if other not in nodes)}
            total += sum(graph.price(node) for node in nodes) - greatest_way(graph, nodes, doors)
    return total


def greatest_way(graph, nodes, doors):
    """The greatest price of a way from a door up to the next one, going round."""
    prices = []
    for node in sorted(doors):
        price = 0
        while price == 0 or node not in doors:
            price += graph.price(node)
            node = next(target for target in graph.successors(node) if target in nodes)
        prices.append(price)
    return max(prices)


class WorthTest(unittest.TestCase):
    def check(self, rows, value):
        self.assertEqual(worth(Graph(rows)), value)
        self.assertIs(is_worthless(Graph(rows)), value == 0)

    def test_example_of_the_interface(self):
        self.check([("a", 1, (1, 2)), ("b", 4, (2, -1)), ("c", 3, (1, -1))], 3)

    def test_no_ring(self):
        self.check([("a", 1, (END,))], 0)
        self.check([("a", 1, (1, 2)), ("b", 2, (2,)), ("c", 3, (END, END))], 0)

    def test_wild(self):
        self.check(WILD, None)
        self.check([("a", 1, (0, 1)), ("b", 1, (0, END))], None)
        # A wild component behind a ring with two doors.
        self.check([*TWO_DOORS[:3], ("d", 2, (3, 4)), ("e", 1, (3, 4, END))], None)

    def test_ring_with_one_door(self):
        self.check([("a", 1, (1,)), ("b", 2, (2, END)), ("c", 3, (1,))], 0)
        self.check([("a", 1, (1, 1)), ("b", 2, (1, END))], 0)

    def test_ring_with_node_0(self):
        self.check([("a", 1, (0, END))], 0)
        self.check([("a", 1, (1,)), ("b", 2, (2, END)), ("c", 3, (0,))], 0)

    def test_rings_with_several_doors(self):
        self.check(TWO_DOORS, 3)
        self.check(THREE_RINGS, 5)
        rows = [("a", 1, (1, 2)), ("b", 4, (2, 3)), ("c", 3, (1, 4)), ("d", 5, (4, END)),
                ("e", 7, (3,))]
        self.check(rows, 8)
        self.assertEqual(worth(ring_graph(Ring([2, 3, 5, 1], [0, 2, 3]))), 6)

    def test_against_slow_worth(self):
        told = []
        for graph in random_graphs(200) + tame_graphs(200, most=10):
            value = slow_worth(graph)
            told.append(value)
            self.assertEqual(worth(graph), value)
            self.assertIs(is_worthless(graph), value == 0)
        self.assertIn(None, told)
        self.assertGreater(max(value for value in told if value is not None), 0)


if __name__ == "__main__":
    unittest.main()
