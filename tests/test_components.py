"""Points 7 and 8: components, their kinds, their order and their exits."""

import unittest

from foreworth.components import component_of, components, exits, kinds
from foreworth.graph import END, Graph
from tests.samples import TWO_DOORS, random_graphs


def reach(graph):
    """For each node the list of the nodes to which it leads."""
    table = []
    for node in range(graph.size):
        met = [node]
        for known in met:
            met += [n for n in graph.successors(known) if n != END and n not in met]
        table.append(sorted(set(met)))
    return table


def slow_components(graph):
    """The components as point 8 lists them, by looking for the next one again and again."""
    table = reach(graph)
    left = sorted({tuple(n for n in table[node] if node in table[n]) for node in range(graph.size)})
    listed = []
    while left:
        for nodes in left:
            others = [node for other in left if other != nodes for node in other]
            if not any(n in graph.successors(other) for other in others for n in nodes):
                break
        left.remove(nodes)
        listed.append(list(nodes))
    return listed


class ComponentsTest(unittest.TestCase):
    def test_example_of_the_interface(self):
        graph = Graph([("a", 1, (1, 2)), ("b", 1, (2, -1)), ("c", 1, (1, -1))])
        self.assertEqual(components(graph), [[0], [1, 2]])

    def test_kinds(self):
        graph = Graph(TWO_DOORS)
        self.assertEqual(components(graph), [[0], [1, 2], [3]])
        self.assertEqual(component_of(graph), [0, 1, 1, 2])
        self.assertEqual(kinds(graph), ["single", "ring", "single"])

    def test_an_edge_to_itself_makes_a_ring(self):
        graph = Graph([("a", 1, (0, 1)), ("b", 1, (END, END))])
        self.assertEqual(kinds(graph), ["ring", "single"])

    def test_a_successor_twice_is_one_distinct_successor(self):
        graph = Graph([("a", 1, (1, 1)), ("b", 1, (0, 0, END))])
        self.assertEqual(components(graph), [[0, 1]])
        self.assertEqual(kinds(graph), ["ring"])
        self.assertEqual(kinds(Graph([("a", 1, (0, 0, END))])), ["ring"])

    def test_wild(self):
        graph = Graph([("a", 1, (1,)), ("b", 1, (0, 1, END))])
        self.assertEqual(components(graph), [[0, 1]])
        self.assertEqual(kinds(graph), ["wild"])
        graph = Graph([("a", 1, (1, 2)), ("b", 1, (0,)), ("c", 1, (0, END))])
        self.assertEqual(kinds(graph), ["wild"])

    def test_order(self):
        # 1 can only come behind 3, and 2 goes before 3 as the lesser one.
        rows = [("a", 1, (3, 2)), ("b", 1, (END,)), ("c", 1, (END,)), ("d", 1, (1,))]
        self.assertEqual(components(Graph(rows)), [[0], [2], [3], [1]])
        self.assertEqual(component_of(Graph(rows)), [0, 3, 1, 2])
        # 4 has freed 1, which is less than 5.
        rows = [("a", 1, (4, 5)), ("b", 1, (2,)), ("c", 1, (END, 1)), ("d", 1, (END,)),
                ("e", 1, (1, 3)), ("f", 1, (END,))]
        self.assertEqual(components(Graph(rows)), [[0], [4], [1, 2], [3], [5]])

    def test_the_least_node_of_a_component_counts(self):
        rows = [("a", 1, (2, 3, 4)), ("b", 1, (3, END)), ("c", 1, (END,)), ("d", 1, (1,)),
                ("e", 1, (END,))]
        self.assertEqual(components(Graph(rows)), [[0], [1, 3], [2], [4]])
        self.assertEqual(kinds(Graph(rows)), ["single", "ring", "single", "single"])

    def test_exits(self):
        graph = Graph([("a", 1, (1, 2, 2)), ("b", 1, (2, END)), ("c", 1, (1, 3, END, 4)),
                       ("d", 1, (END,)), ("e", 1, (3, 3))])
        self.assertEqual(exits(graph, [0]), [1, 2])
        self.assertEqual(exits(graph, [1, 2]), [END, 3, 4])
        self.assertEqual(exits(graph, [2, 1]), [END, 3, 4])
        self.assertEqual(exits(graph, [3]), [END])
        self.assertEqual(exits(graph, [4]), [3])

    def test_against_slow_components(self):
        for graph in random_graphs(150):
            found = components(graph)
            self.assertEqual(found, slow_components(graph))
            index = component_of(graph)
            for place, nodes in enumerate(found):
                self.assertEqual([index[node] for node in nodes], [place] * len(nodes))
                leaving = [n for node in nodes for n in graph.successors(node) if n not in nodes]
                self.assertEqual(exits(graph, nodes[::-1]), sorted(set(leaving)))
                inner = [{n for n in graph.successors(node) if n in nodes} for node in nodes]
                kind = "wild"
                if not any(inner):
                    kind = "single"
                elif all(len(targets) == 1 for targets in inner):
                    kind = "ring"
                self.assertEqual(kinds(graph)[place], kind)
                for node in nodes:
                    for target in graph.successors(node):
                        self.assertTrue(target == END or index[target] >= place)

    def test_lists_are_new(self):
        graph = Graph(TWO_DOORS)
        components(graph)[1].append(3)
        components(graph).clear()
        component_of(graph).clear()
        kinds(graph).clear()
        nodes = [2, 1]
        exits(graph, nodes).clear()
        self.assertEqual(nodes, [2, 1])
        self.assertEqual(components(graph), [[0], [1, 2], [3]])
        self.assertEqual(kinds(graph), ["single", "ring", "single"])
        self.assertEqual(exits(graph, nodes), [END, 3])

    def test_long_graphs(self):
        size = 400
        rows = [("a", 1, (node + 1,)) for node in range(size - 1)] + [("a", 1, (0, END))]
        self.assertEqual(components(Graph(rows)), [list(range(size))])
        rows[-1] = ("a", 1, (END,))
        self.assertEqual(components(Graph(rows)), [[node] for node in range(size)])


if __name__ == "__main__":
    unittest.main()
