"""Point 82: blocks."""

import unittest

from foreworth.blocks import block_run, blocks
from foreworth.changes import split_node, split_run
from foreworth.errors import TooLarge
from foreworth.graph import END, Graph
from foreworth.least import least
from foreworth.rings import Ring
from foreworth.runs import check_team
from foreworth.worth import worth
from tests.samples import (
    THREE_RINGS, TWO_DOORS, WILD, random_graphs, random_runs, ring_graph, ring_run, tame_graphs)


def slow_blocks(graph):
    """The rows of the block graph and the blocks, as point 82 says it."""
    rows = graph.rows()
    entries = [(node, target) for node, row in enumerate(rows) for target in row[2]]
    glued = {}
    for node in range(1, graph.size):
        into = [entry for entry in entries if entry[1] == node]
        if len(into) == 1 and len(rows[into[0][0]][2]) == 1:
            glued[into[0][0]] = node
    found = []
    for node in range(graph.size):
        if node not in glued.values():
            found.append([node])
            while found[-1][-1] in glued:
                found[-1].append(glued[found[-1][-1]])
    made = []
    for block in found:
        targets = [END if target == END else [head for head, *_ in found].index(target)
                   for target in rows[block[-1]][2]]
        made.append((rows[block[0]][0], sum(rows[node][1] for node in block), tuple(targets)))
    return made, found


class BlocksTest(unittest.TestCase):
    def made(self, rows):
        graph, found = blocks(Graph(rows))
        return graph.rows(), found

    def test_blocks_of_one_node(self):
        for rows in (TWO_DOORS, THREE_RINGS, [("a", 1, (END,))]):
            self.assertEqual(self.made(rows), (rows, [[node] for node in range(len(rows))]))

    def test_blocks_of_many_nodes(self):
        rows = [("a", 1, (3,)), ("b", 2, (END, 2)), ("c", 4, (END,)), ("d", 8, (1,))]
        # Node 2 is one of two entries of node 1, so it is a head.
        self.assertEqual(self.made(rows),
                         ([("a", 11, (END, 1)), ("c", 4, (END,))], [[0, 3, 1], [2]]))

    def test_a_block_that_ends_with_end(self):
        rows = [("a", 1, (1,)), ("b", 2, (2,)), ("c", 4, (END,))]
        self.assertEqual(self.made(rows), ([("a", 7, (END,))], [[0, 1, 2]]))

    def test_a_node_that_occurs_twice_in_one_row(self):
        rows = [("a", 1, (1, 1)), ("b", 2, (END,))]
        self.assertEqual(self.made(rows), (rows, [[0], [1]]))
        rows = [("a", 1, (1,)), ("b", 2, (2, 2)), ("c", 3, (END,))]
        self.assertEqual(self.made(rows),
                         ([("a", 3, (1, 1)), ("c", 3, (END,))], [[0, 1], [2]]))

    def test_a_node_that_occurs_in_another_row(self):
        rows = [("a", 1, (1,)), ("b", 2, (2, 3)), ("c", 3, (3,)), ("d", 4, (END,))]
        self.assertEqual(self.made(rows), (
            [("a", 3, (1, 2)), ("c", 3, (2,)), ("d", 4, (END,))], [[0, 1], [2], [3]]))

    def test_node_0_as_a_successor(self):
        rows = [("a", 1, (1, END)), ("b", 2, (0,))]
        self.assertEqual(self.made(rows), (rows, [[0], [1]]))
        rows = [("a", 1, (1,)), ("b", 2, (2, END)), ("c", 3, (0,))]
        self.assertEqual(self.made(rows), (
            [("a", 3, (1, END)), ("c", 3, (0,))], [[0, 1], [2]]))

    def test_a_ring_whose_nodes_are_all_of_one_block(self):
        rows = [("a", 1, (3,)), ("b", 2, (2,)), ("c", 4, (3, END)), ("d", 8, (1,))]
        self.assertEqual(self.made(rows),
                         ([("a", 1, (1,)), ("d", 14, (1, END))], [[0], [3, 1, 2]]))

    def test_runs(self):
        rows = [("a", 1, (3,)), ("b", 2, (2,)), ("c", 4, (3, END)), ("d", 8, (1,))]
        graph, found = blocks(Graph(rows))
        self.assertEqual(block_run(found, [0, 3, 1, 2]), [0, 1])
        self.assertEqual(block_run(found, [0, 3, 1, 2, 3, 1, 2]), [0, 1, 1])
        self.assertEqual(block_run([[0, 1], [2]], [0, 1, 2, 0, 1]), [0, 1, 0])
        self.assertEqual(block_run([[0]], [0]), [0])

    def test_the_same_word_by_word(self):
        several = 0
        for graph in [*random_graphs(200, most=10, seed=40), *tame_graphs(100, most=12, seed=40)]:
            found, members = blocks(graph)
            self.assertEqual((found.rows(), members), slow_blocks(graph))
            several += found.size < graph.size
        self.assertGreater(several, 50)

    def test_facts(self):
        for place, graph in enumerate([*random_graphs(100, most=9, seed=41),
                                       *tame_graphs(150, most=12, seed=41)]):
            found, members = blocks(graph)
            runs = random_runs(graph, 4, seed=place)
            kept = [block_run(members, run) for run in runs]
            self.assertIsNone(check_team(found, kept))
            self.assertEqual(worth(found), worth(graph))
            try:
                self.assertEqual(least(found, kept)[0], least(graph, runs)[0])
            except TooLarge:
                pass

    def test_splits_are_glued(self):
        for rows in (TWO_DOORS, THREE_RINGS, WILD):
            graph = Graph(rows)
            for node in range(graph.size):
                if graph.price(node) > 1:
                    found, members = blocks(split_node(graph, node, 1))
                    self.assertEqual(found.rows(), rows)
                    run = split_run([0, node, node], node, graph.size)
                    self.assertEqual(block_run(members, run), [0, node, node])

    def test_what_is_passed_and_returned_may_be_changed(self):
        rows = [("a", 1, (1,)), ("b", 2, (END,))]
        graph = Graph(rows)
        _, found = blocks(graph)
        run = [0, 1]
        self.assertEqual(block_run(found, run), [0])
        self.assertEqual((found, run), ([[0, 1]], [0, 1]))
        found[0].clear()
        self.assertEqual(blocks(graph)[1], [[0, 1]])
        self.assertEqual(graph.rows(), rows)

    def test_limits(self):
        rows = [("a", 10 ** 9, (node + 1,)) for node in range(199)]
        graph, found = blocks(Graph([*rows, ("b", 10 ** 9, (END,))]))
        self.assertEqual((graph.rows(), found), ([("a", 200 * 10 ** 9, (END,))], [list(range(200))]))
        ring = Ring([10 ** 9] * 150, [0, 75])
        graph, found = blocks(ring_graph(ring))
        self.assertEqual(len(block_run(found, ring_run(ring, 0, 3900))), 3901)


if __name__ == "__main__":
    unittest.main()
