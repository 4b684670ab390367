"""Points 4 to 6: graphs and the errors of their rows."""

import unittest

from foreworth.errors import BadNode, NoEnd, Unreachable
from foreworth.graph import END, Graph


class GraphTest(unittest.TestCase):
    def refused(self, rows, error, node):
        with self.assertRaises(error) as caught:
            Graph(rows)
        self.assertEqual(caught.exception.node, node)

    def test_questions(self):
        rows = [("go", 3, (1, 1, END)), ("stay", 10 ** 12, (1, 0, 1, END))]
        graph = Graph(rows)
        self.assertEqual(END, -1)
        self.assertEqual(graph.size, 2)
        self.assertEqual(graph.rows(), rows)
        self.assertEqual(list(graph), rows)
        self.assertEqual([graph.word(0), graph.word(1)], ["go", "stay"])
        self.assertEqual([graph.price(0), graph.price(1)], [3, 10 ** 12])
        self.assertEqual([graph.successors(0), graph.successors(1)], [(1, 1, END), (1, 0, 1, END)])

    def test_examples_of_the_interface(self):
        self.refused([("a", 1, (0, 2)), ("b", 1, (-1,))], BadNode, 0)
        self.refused([("a", 1, (-1,)), ("b", 1, (-1,))], Unreachable, 1)

    def test_lists_are_not_shared(self):
        rows = [("a", 1, (1,)), ("b", 2, (END,))]
        graph = Graph(rows)
        rows.append(("c", 3, (END,)))
        rows[0] = ("z", 9, (END,))
        told = graph.rows()
        told.clear()
        self.assertEqual(graph.rows(), [("a", 1, (1,)), ("b", 2, (END,))])
        self.assertEqual(list(graph), graph.rows())
        self.assertEqual(graph.size, 2)

    def test_words(self):
        Graph([("abcdefgh", 1, (END,))])
        Graph([("z", 1, (END,))])
        for word in ("", "abcdefghi", "A", "aB", "a1", "a b", "a-b", "a\n", "{", "`", "\u00e9"):
            with self.subTest(word=word):
                self.refused([(word, 1, (END,))], BadNode, 0)

    def test_prices(self):
        for price in (0, -1):
            self.refused([("a", 1, (1,)), ("b", price, (END,))], BadNode, 1)

    def test_successors(self):
        self.assertEqual(Graph([("a", 1, (0, 0, 0, END))]).successors(0), (0, 0, 0, END))
        for successors in ((), (0, 0, 0, 0, END), (1, END), (-2, END), (END, 7)):
            with self.subTest(successors=successors):
                self.refused([("a", 1, successors)], BadNode, 0)
                self.refused([("a", 1, (1,)), ("b", 1, (*successors[:1], 2))], BadNode, 1)

    def test_no_rows(self):
        self.refused([], BadNode, 0)

    def test_least_node(self):
        self.refused([("a", 1, (END,)), ("b", 0, (END,)), ("", 0, ())], BadNode, 1)
        self.refused([("a", 1, (2,)), ("b", 1, (END,)), ("c", 1, (END,)), ("d", 1, (END,))],
                     Unreachable, 1)
        self.refused([("a", 1, (1, 2, END)), ("b", 1, (1,)), ("c", 1, (1,))], NoEnd, 1)
        self.refused([("a", 1, (1, END)), ("b", 1, (2,)), ("c", 1, (1,))], NoEnd, 1)

    def test_reached_by_unreached_nodes_alone(self):
        rows = [("a", 1, (END,)), ("b", 1, (2, 0)), ("c", 1, (1,))]
        self.refused(rows, Unreachable, 1)

    def test_order_of_errors(self):
        # Node 1 is not reached, node 2 has no end and node 3 a bad price.
        rows = [("a", 1, (2, END)), ("b", 1, (END,)), ("c", 1, (2,)), ("d", 0, (END,))]
        self.refused(rows, BadNode, 3)
        self.refused(rows[:3], Unreachable, 1)
        self.refused([rows[0], ("b", 1, (2,)), ("c", 1, (1,))], NoEnd, 1)

    def test_the_whole_graph_has_no_end(self):
        self.refused([("a", 1, (0,))], NoEnd, 0)
        self.refused([("a", 1, (1,)), ("b", 1, (0,))], NoEnd, 0)

    def test_long_graphs(self):
        size = 400
        rows = [("a", 1, (node + 1,)) for node in range(size - 1)] + [("a", 1, (END,))]
        self.assertEqual(Graph(rows).size, size)
        self.refused([*rows[:-1], ("a", 1, (0,))], NoEnd, 0)


if __name__ == "__main__":
    unittest.main()
