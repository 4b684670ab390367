"""Points 78 and 79: joining doors."""

import unittest

from foreworth.covers import covers, extra, lift, picture
from foreworth.errors import WildProgram
from foreworth.graph import END, Graph
from foreworth.joins import join
from foreworth.projected import check_cover
from foreworth.rings import Ring, rings
from foreworth.worth import is_worthless, worth
from tests.samples import (
    THREE_RINGS, TWO_DOORS, WILD, random_graphs, random_runs, ring_graph, tame_graphs)


class JoinTest(unittest.TestCase):
    def joined(self, rows):
        graph, mapping = join(Graph(rows))
        return graph.rows(), mapping

    def test_two_doors(self):
        # The greatest gap is the price of node 1, so it goes from node 1 to node 2: the
        # start is node 2, and the last door is node 1.
        self.assertEqual(self.joined(TWO_DOORS), (
            [("a", 1, (1, 4)), ("b", 4, (2, END)), ("c", 3, (1, 3)), ("d", 2, (END,)),
             ("c", 3, (1, 3))], [0, 1, 2, 3, 2]))

    def test_nothing_to_join(self):
        for rows in ([("a", 5, (END,))], [("a", 1, (1, 0)), ("b", 2, (END, 1))],
                     [("a", 1, (1,)), ("b", 2, (2, 3)), ("c", 2, (1,)), ("d", 2, (END,))]):
            self.assertEqual(self.joined(rows), (rows, list(range(len(rows)))))

    def test_doors_that_follow_one_another_and_others(self):
        # Nodes 1 to 5 with doors at nodes 1, 2 and 4; the gap of node 4 and 5 is the greatest.
        ring = Ring([1, 2, 1, 5, 6], [0, 1, 3])
        rows = ring_graph(ring).rows()
        self.assertEqual(rows[0][2], (1, 6))
        self.assertEqual((rows[6][2], rows[7][2]), ((2, 7), (4,)))
        copies = [("r", 1, (9, END)), ("r", 2, (10, END)), ("r", 1, (4, END))]
        self.assertEqual(self.joined(rows), (
            [("s", 1, (8, 6)), *rows[1:6], ("s", 1, (9, 7)), rows[7], *copies],
            [*range(8), 1, 2, 3]))

    def test_a_ring_whose_last_door_is_before_its_start(self):
        # The gap of 9 behind node 1 ends at node 3, which is the start.
        ring = Ring([6, 3, 5, 1, 4], [0, 2, 3])
        rows = ring_graph(ring).rows()
        copies = [("r", 5, (9, END)), ("r", 1, (10, END)), ("r", 4, (1, END))]
        self.assertEqual((rows[6][2], rows[7][2]), ((3, 7), (4,)))
        self.assertEqual(self.joined(rows), (
            [*rows[:6], ("s", 1, (8, 7)), ("s", 1, (9,)), *copies], [*range(8), 3, 4, 5]))

    def test_rings_that_lead_to_one_another(self):
        # The ring of nodes 1 and 2 leads to that of nodes 3 and 4 from both of its nodes.
        rows = [("a", 1, (1, 2)), ("b", 3, (2, 3, 3)), ("c", 2, (1, 4)), ("d", 1, (4, END)),
                ("e", 5, (3, 3))]
        # The starts are node 2 (behind a gap of 3) and node 3 (behind a gap of 5).
        self.assertEqual(self.joined(rows), (
            [("a", 1, (1, 5)), ("b", 3, (2, 6, 6)), ("c", 2, (1, 4)), ("d", 1, (4, END)),
             ("e", 5, (3, 3)), ("c", 2, (1, 4)), ("d", 1, (4, END))], [0, 1, 2, 3, 4, 2, 3]))

    def test_copies_that_lead_to_copies_of_another_ring(self):
        rows = [("a", 1, (1, 2)), ("b", 2, (2, 3, 4)), ("c", 3, (1, 4)), ("d", 1, (4, END)),
                ("e", 5, (3, 3))]
        # The starts are node 1 (behind a gap of 3) and node 3.
        self.assertEqual(self.joined(rows), (
            [("a", 1, (5, 2)), ("b", 2, (2, 6, 4)), ("c", 3, (1, 4)), ("d", 1, (4, END)),
             ("e", 5, (3, 3)), ("b", 2, (2, 6, 4)), ("d", 1, (4, END))], [0, 1, 2, 3, 4, 1, 3]))

    def test_a_ring_at_the_entry_has_one_door(self):
        # Nodes 0 and 1 are a ring with one door; the ring of nodes 2, 3 and 4 has three.
        rows, mapping = self.joined(THREE_RINGS)
        self.assertEqual(mapping[:7], list(range(7)))
        self.assertEqual(rows[:2], [("a", 2, (1, 7)), ("b", 3, (0, 8, 4, 5))])
        # The greatest gap is 6, from node 4 to node 2: the copies are of nodes 2 and 3.
        self.assertEqual((rows[7:], mapping[7:]), ([("c", 4, (8, 5)), ("d", 1, (4,))], [2, 3]))

    def test_wild_programs(self):
        with self.assertRaises(WildProgram) as caught:
            join(Graph(WILD))
        self.assertEqual(caught.exception.node, 1)

    def test_the_same_word_by_word(self):
        for graph in tame_graphs(200, most=12, seed=23):
            rows, mapping = self.joined(graph.rows())
            self.assertEqual((rows, mapping), slow_join(graph))

    def test_facts(self):
        for place, graph in enumerate(tame_graphs(200, most=12, seed=24)):
            joined, mapping = join(graph)
            self.assertTrue(covers(joined, graph, mapping))
            self.assertEqual(worth(joined), 0)
            self.assertTrue(is_worthless(joined))
            copies = range(graph.size, joined.size)
            self.assertEqual(sum(joined.price(node) for node in copies), worth(graph))
            self.assertLessEqual(len(copies), graph.size - 1)
            runs = random_runs(graph, 4, seed=place)
            for run in runs:
                self.assertEqual(picture(mapping, lift(joined, graph, run)), run)
            self.assertLessEqual(extra(joined, graph, runs), worth(graph))
            self.assertEqual(check_cover(joined, graph, mapping)[1], worth(graph))

    def test_what_is_returned_may_be_changed(self):
        graph = Graph(TWO_DOORS)
        joined, mapping = join(graph)
        mapping.clear()
        joined.rows().clear()
        self.assertEqual(join(graph)[1], [0, 1, 2, 3, 2])
        self.assertEqual(graph.rows(), TWO_DOORS)

    def test_limits(self):
        ring = Ring([10 ** 9] * 120, list(range(60)))
        joined, mapping = join(ring_graph(ring))
        self.assertEqual(joined.size, 120 + 60 + 59)
        self.assertEqual(sum(joined.price(node) for node in range(180, 239)), 59 * 10 ** 9)
        self.assertEqual(mapping[180:], list(range(1, 60)))


def slow_join(graph):
    """The joined graph and the mapping, made as point 78 says it."""
    ring_at = {node: ring for ring in rings(graph) if len(ring.doors) > 1 for node in ring.nodes}
    copied = []
    for ring in rings(graph):
        if len(ring.doors) > 1:
            place = ring.start()
            while place != ring.last():
                copied.append(ring.nodes[place])
                place = (place + 1) % ring.size
    mapping = list(range(graph.size)) + copied
    rows = []
    for number, node in enumerate(mapping):
        word, price, targets = graph.rows()[node]
        found = []
        for target in targets:
            ring = ring_at.get(target)
            outside = ring is not None and (number >= graph.size or node not in ring.nodes)
            if outside and target != ring.nodes[ring.last()]:
                found.append(graph.size + copied.index(target))
            else:
                found.append(target)
        rows.append((word, price, tuple(found)))
    return rows, mapping


if __name__ == "__main__":
    unittest.main()
