"""Point 5: shortest paths."""

import unittest
from itertools import product

from foreworth.graph import END, Graph
from foreworth.paths import shortest_path
from tests.samples import random_graphs
from tests.slow import all_paths


class PathsTest(unittest.TestCase):
    def setUp(self):
        self.graph = Graph([
            ("a", 1, (2, 1, 3)), ("b", 9, (4,)), ("c", 1, (4,)), ("d", 1, (5,)),
            ("e", 1, (5, 0)), ("f", 1, (END, 5)),
        ])

    def test_fewest_nodes_then_least(self):
        self.assertEqual(shortest_path(self.graph, 0, 4), [0, 1, 4])
        self.assertEqual(shortest_path(self.graph, 0, 5), [0, 3, 5])
        self.assertEqual(shortest_path(self.graph, 4, 2), [4, 0, 2])

    def test_a_node_to_itself(self):
        self.assertEqual(shortest_path(self.graph, 5, 5), [5])
        self.assertEqual(shortest_path(self.graph, 0, 0), [0])

    def test_end_as_last(self):
        self.assertEqual(shortest_path(self.graph, 0, END), [0, 3, 5])
        self.assertEqual(shortest_path(self.graph, 5, END), [5])
        self.assertEqual(shortest_path(self.graph, 0, END, avoid=(3,)), [0, 1, 4, 5])

    def test_the_least_of_several_ends(self):
        graph = Graph([("a", 1, (2, 1)), ("b", 1, (END,)), ("c", 1, (END, 1))])
        self.assertEqual(shortest_path(graph, 0, END), [0, 1])

    def test_avoid(self):
        self.assertEqual(shortest_path(self.graph, 0, 4, avoid=(1,)), [0, 2, 4])
        self.assertEqual(shortest_path(self.graph, 0, 5, avoid=(3, 2)), [0, 1, 4, 5])

    def test_none(self):
        self.assertIsNone(shortest_path(self.graph, 5, 0))
        self.assertIsNone(shortest_path(self.graph, 0, 4, avoid=(1, 2)))
        self.assertIsNone(shortest_path(self.graph, 0, 4, avoid=(0,)))
        self.assertIsNone(shortest_path(self.graph, 0, 4, avoid=(4,)))
        self.assertIsNone(shortest_path(self.graph, 4, 4, avoid=(4,)))
        self.assertIsNone(shortest_path(self.graph, 0, END, avoid=(5,)))

    def test_against_all_paths(self):
        for graph in random_graphs(60, most=6):
            ends = range(graph.size)
            for first, last, barred in product(ends, [END, *ends], [None, *ends]):
                avoid = () if barred is None else (barred,)
                found = all_paths(graph, first, last, avoid)
                least = min(found, key=lambda path: (len(path), path), default=None)
                self.assertEqual(shortest_path(graph, first, last, avoid=avoid), least)

    def test_lists_are_new(self):
        shortest_path(self.graph, 0, 5).append(7)
        self.assertEqual(shortest_path(self.graph, 0, 5), [0, 3, 5])

    def test_a_long_path(self):
        rows = [("a", 1, (node + 1, 0)) for node in range(399)] + [("a", 1, (END,))]
        self.assertEqual(shortest_path(Graph(rows), 0, END), list(range(400)))


if __name__ == "__main__":
    unittest.main()
