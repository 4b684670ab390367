"""Points 80 and 81: folding and differences."""

import unittest
from itertools import product
from random import Random

from foreworth.covers import covers
from foreworth.folds import difference, fold
from foreworth.graph import END, Graph
from foreworth.joins import join
from foreworth.runs import log_of, run_of
from tests.samples import (
    THREE_RINGS, TWO_DOORS, WILD, plain_graphs, random_cover, random_graphs, tame_graphs)


def parted_by(first, second, node, other, indexes):
    """Whether a list of indexes parts two nodes, as point 80 says it."""
    for index in indexes:
        if END in (node, other) or len(first.successors(node)) != len(second.successors(other)):
            return False
        if index >= len(first.successors(node)):
            return False
        node = first.successors(node)[index]
        other = second.successors(other)[index]
    if END in (node, other):
        return node != other
    rows = first.rows()[node], second.rows()[other]
    return rows[0][:2] != rows[1][:2] or len(rows[0][2]) != len(rows[1][2])


def parted_pairs(graph):
    """All pairs of nodes that a list of indexes parts, found by going backwards."""
    rows = graph.rows()
    nodes = range(graph.size)
    parted = {(node, other) for node in nodes for other in nodes
              if parted_by(graph, graph, node, other, [])}
    parted |= {(END, node) for node in nodes} | {(node, END) for node in nodes}
    more = True
    while more:
        found = {(node, other) for node in nodes for other in nodes
                 if any(pair in parted for pair in zip(rows[node][2], rows[other][2]))}
        more = not found <= parted
        parted |= found
    return parted


def slow_fold(graph):
    """The rows of the folded graph and the mapping, as point 80 says it."""
    parted = parted_pairs(graph)
    classes = [{other for other in range(graph.size) if (node, other) not in parted}
               for node in range(graph.size)]
    order = [classes[0]]
    for members in order:
        for target in graph.successors(min(members)):
            if target != END and classes[target] not in order:
                order.append(classes[target])
    mapping = [order.index(members) for members in classes]
    rows = []
    for members in order:
        word, price, targets = graph.rows()[max(members)]
        below = [END if target == END else mapping[target] for target in targets]
        rows.append((word, price, tuple(below)))
    return rows, mapping


def changed(graph, source):
    """The graph with another word at one node."""
    rows = graph.rows()
    node = source.randrange(graph.size)
    rows[node] = ("z", *rows[node][1:])
    return Graph(rows)


class FoldTest(unittest.TestCase):
    def folded(self, rows):
        graph, mapping = fold(Graph(rows))
        return graph.rows(), mapping

    def test_no_nodes_that_are_alike(self):
        self.assertEqual(self.folded(TWO_DOORS), (TWO_DOORS, [0, 1, 2, 3]))
        self.assertEqual(self.folded([("a", 1, (END,))]), ([("a", 1, (END,))], [0]))

    def test_numbers_of_the_classes(self):
        # They are met in the order of the successors: first node 2, then node 1.
        rows = [("a", 1, (2, 1)), ("b", 1, (END,)), ("c", 1, (3,)), ("b", 1, (END,))]
        self.assertEqual(self.folded(rows), (
            [("a", 1, (1, 2)), ("c", 1, (2,)), ("b", 1, (END,))], [0, 2, 1, 2]))
        # The successors of class 1 come before those of class 2.
        rows = [("a", 1, (3, 1)), ("b", 1, (2,)), ("c", 1, (END,)), ("d", 1, (4,)),
                ("e", 1, (END,))]
        self.assertEqual(self.folded(rows)[1], [0, 2, 4, 1, 3])

    def test_nodes_that_part_at_once(self):
        for row in (("c", 1, (END,)), ("b", 2, (END,)), ("b", 1, (END, END))):
            rows = [("a", 1, (1, 2)), ("b", 1, (END,)), row]
            self.assertEqual(self.folded(rows), (rows, [0, 1, 2]))
        rows = [("a", 1, (1, 2)), ("b", 1, (END,)), ("b", 1, (END,))]
        self.assertEqual(self.folded(rows), ([("a", 1, (1, 1)), ("b", 1, (END,))], [0, 1, 1]))

    def test_nodes_that_part_by_end(self):
        # All words, prices and numbers of successors are the same.
        rows = [("a", 1, (1, 1)), ("a", 1, (END, 0))]
        self.assertEqual(self.folded(rows), (rows, [0, 1]))
        rows = [("a", 1, (1, END)), ("a", 1, (0, END))]
        self.assertEqual(self.folded(rows), ([("a", 1, (0, END))], [0, 0]))

    def test_nodes_that_part_only_behind_several_indexes(self):
        chain = [("a", 1, (node + 1,)) for node in range(9)]
        rows = [*chain, ("a", 1, (END,))]
        self.assertEqual(self.folded(rows), (rows, list(range(10))))
        # Two chains that differ in their last nodes alone, then two that do not.
        first = [("b", 1, (2,)), ("b", 1, (3,)), ("b", 1, (END,))]
        for last, many in ((("c", 1, (END,)), 7), (("b", 1, (END,)), 4)):
            rows = [("a", 1, (1, 4)), *first, ("b", 1, (5,)), ("b", 1, (6,)), last]
            self.assertEqual(len(self.folded(rows)[0]), many)

    def test_long_chains(self):
        rows = [("a", 1, (node + 1,)) for node in range(199)]
        self.assertEqual(self.folded([*rows, ("a", 1, (END,))])[1], list(range(200)))
        rows = [("a", 1, (node + 1, 0)) for node in range(199)]
        self.assertEqual(self.folded([*rows, ("a", 1, (0, END))])[1], list(range(200)))
        rings = [("a", 1, ((node + 1) % 200, END)) for node in range(200)]
        self.assertEqual(self.folded(rings), ([("a", 1, (0, END))], [0] * 200))

    def test_the_same_word_by_word(self):
        smaller = 0
        source = Random(39)
        for place, graph in enumerate([*plain_graphs(100), *random_graphs(60, seed=31)]):
            top, _ = random_cover(graph, 3, seed=place)
            for each in (graph, top, changed(top, source)):
                found, mapping = fold(each)
                self.assertEqual((found.rows(), mapping), slow_fold(each))
                smaller += 1 < found.size < each.size
        self.assertGreater(smaller, 100)

    def test_facts(self):
        for graph in plain_graphs(200, seed=32):
            found, mapping = fold(graph)
            self.assertTrue(covers(graph, found, mapping))
            again, same = fold(found)
            self.assertEqual((again.rows(), same), (found.rows(), list(range(found.size))))

    def test_covers_have_the_same_folded_graph(self):
        for place, graph in enumerate([*plain_graphs(60, seed=33), *random_graphs(60, seed=33)]):
            top, _ = random_cover(graph, 3, seed=place)
            self.assertEqual(fold(top)[0].rows(), fold(graph)[0].rows())
            self.assertIsNone(difference(top, graph))
        for graph in tame_graphs(60, seed=34):
            self.assertEqual(fold(join(graph)[0])[0].rows(), fold(graph)[0].rows())

    def test_what_is_returned_may_be_changed(self):
        graph = Graph(TWO_DOORS)
        fold(graph)[1].clear()
        fold(graph)[0].rows().clear()
        self.assertEqual(self.folded(TWO_DOORS), (TWO_DOORS, [0, 1, 2, 3]))


class DifferenceTest(unittest.TestCase):
    def test_graphs_that_are_alike(self):
        for rows in (TWO_DOORS, WILD, THREE_RINGS):
            self.assertIsNone(difference(Graph(rows), Graph(rows)))
        self.assertIsNone(difference(Graph([("a", 1, (1, END)), ("a", 1, (0, END))]),
                                     Graph([("a", 1, (0, END))])))

    def test_graphs_that_part_at_once(self):
        first = Graph([("a", 1, (END, END))])
        for row in (("b", 1, (END, END)), ("a", 2, (END, END)), ("a", 1, (END,)),
                    ("a", 1, (END, END, END))):
            self.assertEqual(difference(first, Graph([row])), [])

    def test_end_in_one_of_them(self):
        first = Graph([("a", 1, (END, END))])
        self.assertEqual(difference(first, Graph([("a", 1, (0, END))])), [0])
        self.assertEqual(difference(Graph([("a", 1, (END, 0))]), first), [1])

    def test_nodes_with_one_successor_take_an_index(self):
        first = Graph([("a", 1, (1,)), ("b", 1, (2,)), ("c", 1, (END,))])
        second = Graph([("a", 1, (1,)), ("b", 1, (2,)), ("d", 1, (END,))])
        self.assertEqual(difference(first, second), [0, 0])

    def test_shortest_lists_and_ties(self):
        rows = [("a", 1, (1, 2)), ("b", 1, (3, 3)), ("c", 1, (3, 3)), ("d", 1, (END,))]
        first = Graph(rows)
        other = [("d", 1, (END,)), ("e", 1, (END,)), ("f", 1, (END,))]
        # Both nodes 1 and 2 lead to another node behind them: the least list is by node 1.
        second = Graph([("a", 1, (1, 2)), ("b", 1, (3, 4)), ("c", 1, (5, 3)), *other])
        self.assertEqual(difference(first, second), [0, 1])
        second = Graph([("a", 1, (1, 2)), ("b", 1, (3, 3)), ("c", 1, (4, 5)), *other])
        self.assertEqual(difference(first, second), [1, 0])
        # A longer list by index 0 counts less than a shorter one by index 1.
        second = Graph([("a", 1, (1, 2)), ("b", 1, (3, 4)), ("f", 1, (3, 3)), *other[:2]])
        self.assertEqual(difference(first, second), [1])

    def test_random_differences(self):
        source = Random(35)
        lengths = set()
        graphs = plain_graphs(150, most=6, seed=36)
        for _ in range(400):
            first, second = source.choice(graphs), source.choice(graphs)
            if source.randint(0, 1):
                second = changed(first, source)
            found = difference(first, second)
            self.assertEqual(found is None, fold(first)[0].rows() == fold(second)[0].rows())
            longest = 8 if found is None else len(found)
            self.assertEqual(self.least_by_trying(first, second, longest), found)
            lengths.add(found if found is None else len(found))
        self.assertGreaterEqual(lengths, {None, 0, 1, 2, 3})

    def least_by_trying(self, first, second, longest):
        """The first list in the order of lengths and lists that parts the nodes 0."""
        for length in range(longest + 1):
            for indexes in product(range(2), repeat=length):
                if parted_by(first, second, 0, 0, indexes):
                    return list(indexes)
        return None

    def test_logs(self):
        source = Random(37)
        for place, graph in enumerate(plain_graphs(60, seed=38)):
            top, _ = random_cover(graph, 3, seed=place)
            for _ in range(5):
                choices = [source.randint(0, 9) for _ in range(30)]
                logs = [log_of(each, run_of(each, choices, limit=40)[0]) for each in (top, graph)]
                self.assertEqual(logs[0], logs[1])

    def test_long_differences(self):
        # The nodes 0 of two rings of 199 and 200 nodes part by END behind both at once.
        rings = []
        for size in (199, 200):
            rows = [("a", 1, ((node + 1) % size,)) for node in range(size)]
            rows[-1] = ("b", 1, (0, END))
            rings.append(Graph(rows))
        self.assertEqual(difference(rings[0], rings[1]), [0] * 198)
        chains = [Graph([("a", 1, (node + 1, 0)) for node in range(199)] + [("a", 1, last)])
                  for last in ((0, END), (END, 0))]
        self.assertEqual(difference(chains[0], chains[1]), [0] * 200)


if __name__ == "__main__":
    unittest.main()
