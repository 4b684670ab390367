"""Points 56 and 57: changes of a graph."""

import unittest

from foreworth.changes import (
    split_node, split_run, with_price, with_successor, without_successor)
from foreworth.errors import BadChange, BadNode, ForeworthError, NoEnd, Unreachable
from foreworth.graph import END, Graph
from foreworth.least import least
from foreworth.runs import check_team
from foreworth.worth import worth
from tests.samples import TWO_DOORS, WILD, random_graphs, random_runs, tame_graphs


class ChangesTest(unittest.TestCase):
    def setUp(self):
        self.graph = Graph(TWO_DOORS)

    def tearDown(self):
        # The old graph stays, whatever was made of it.
        self.assertEqual(self.graph.rows(), TWO_DOORS)
        self.assertEqual(self.graph.size, 4)

    def refused(self, error, node, call, *rest):
        with self.assertRaises(error) as caught:
            call(self.graph, *rest)
        self.assertIs(type(caught.exception), error)
        self.assertEqual(caught.exception.node, node)

    def test_price(self):
        graph = with_price(self.graph, 1, 9)
        self.assertEqual(graph.rows(), [("a", 1, (1, 2)), ("b", 9, (2, END)), *TWO_DOORS[2:]])
        self.assertEqual(with_price(self.graph, 3, 1).price(3), 1)
        self.assertEqual(with_price(self.graph, 0, 10 ** 12).price(0), 10 ** 12)
        self.assertEqual(with_price(self.graph, 2, 3).rows(), TWO_DOORS)

    def test_price_below_1(self):
        for price in (0, -1, -10 ** 9):
            self.refused(BadNode, 2, with_price, 2, price)
        self.refused(BadNode, 0, with_price, 0, 0)

    def test_successor(self):
        self.assertEqual(with_successor(self.graph, 1, 3).successors(1), (2, END, 3))
        self.assertEqual(with_successor(self.graph, 3, END).successors(3), (END, END))
        self.assertEqual(with_successor(self.graph, 3, 0).rows(), [*TWO_DOORS[:3], ("d", 2, (END, 0))])

    def test_fifth_successor(self):
        graph = with_successor(with_successor(self.graph, 0, 1), 0, END)
        self.assertEqual(graph.successors(0), (1, 2, 1, END))
        with self.assertRaises(BadNode) as caught:
            with_successor(graph, 0, 1)
        self.assertEqual(caught.exception.node, 0)

    def test_target_that_is_no_node(self):
        for target in (-2, 4, 99, -10 ** 9):
            self.refused(BadNode, 1, with_successor, 1, target)

    def test_without_successor(self):
        graph = without_successor(self.graph, 1, 1)
        self.assertEqual(graph.successors(1), (2,))
        self.assertEqual(without_successor(self.graph, 2, 0).successors(2), (3,))
        graph = Graph([("a", 1, (1, 0, 1, END)), ("b", 1, (END,))])
        self.assertEqual(without_successor(graph, 0, 0).successors(0), (0, 1, END))
        self.assertEqual(without_successor(graph, 0, 2).successors(0), (1, 0, END))
        self.assertEqual(without_successor(graph, 0, 3).successors(0), (1, 0, 1))

    def test_index_that_is_not_there(self):
        for place in (2, 3, -1, -2, 10 ** 9):
            self.refused(BadChange, 1, without_successor, 1, place)
        self.refused(BadChange, 3, without_successor, 3, 1)
        self.refused(BadChange, 3, without_successor, 3, -1)

    def test_nodes_without_successors(self):
        self.refused(BadNode, 3, without_successor, 3, 0)

    def test_nodes_that_are_no_longer_led_to(self):
        self.refused(Unreachable, 3, without_successor, 2, 1)
        graph = Graph([("a", 1, (1, END)), ("b", 1, (2,)), ("c", 1, (END,))])
        with self.assertRaises(Unreachable) as caught:
            without_successor(graph, 0, 0)
        self.assertEqual(caught.exception.node, 1)

    def test_nodes_that_no_longer_lead_to_the_end(self):
        graph = Graph([("a", 1, (1, END)), ("b", 1, (2,)), ("c", 1, (1, END))])
        with self.assertRaises(NoEnd) as caught:
            without_successor(graph, 2, 1)
        self.assertEqual(caught.exception.node, 1)

    def test_split(self):
        graph = split_node(self.graph, 1, 3)
        self.assertEqual(graph.rows(), [
            ("a", 1, (1, 2)), ("b", 3, (4,)), ("c", 3, (1, 3)), ("d", 2, (END,)),
            ("b", 1, (2, END))])
        self.assertEqual(split_node(self.graph, 1, 1).price(4), 3)
        self.assertEqual(split_node(self.graph, 3, 1).rows()[3:], [("d", 1, (4,)), ("d", 1, (END,))])
        graph = Graph([("a", 5, (0, 0, END))])
        self.assertEqual(split_node(graph, 0, 2).rows(), [("a", 2, (1,)), ("a", 3, (0, 0, END))])

    def test_split_outside_of_its_range(self):
        for first in (0, 4, 5, -1, 10 ** 9):
            self.refused(BadChange, 1, split_node, 1, first)
        # A node of price 1 cannot be split.
        for first in (0, 1, 2):
            self.refused(BadChange, 0, split_node, 0, first)

    def test_split_run(self):
        self.assertEqual(split_run([0, 1, 2, 1], 1, 4), [0, 1, 4, 2, 1, 4])
        self.assertEqual(split_run([0, 2, 3], 1, 4), [0, 2, 3])
        self.assertEqual(split_run([], 1, 4), [])
        self.assertEqual(split_run([7, 7], 7, 7), [7, 7, 7, 7])
        self.assertEqual(split_run([-5, 3], -5, -1), [-5, -1, 3])
        self.assertEqual(split_run([1, 4], 4, 1), [1, 4, 1])

    def test_lists_stay_and_are_new(self):
        run = [0, 1]
        found = split_run(run, 5, 6)
        found.append(3)
        self.assertEqual(run, [0, 1])
        graph = with_price(self.graph, 1, 9)
        graph.rows().clear()
        self.assertEqual(graph.price(1), 9)


class FactsTest(unittest.TestCase):
    def test_splits_change_neither_worth_nor_least_bills(self):
        for graph in random_graphs(60, most=5) + tame_graphs(60, most=9):
            runs = [run for run in random_runs(graph, 3) if len(run) < 14]
            for node in range(graph.size):
                if graph.price(node) > 1:
                    split = split_node(graph, node, graph.price(node) // 2)
                    team = [split_run(run, node, graph.size) for run in runs]
                    check_team(split, team)
                    self.assertEqual(worth(split), worth(graph))
                    self.assertEqual(least(split, team)[0], least(graph, runs)[0])

    def test_successors_and_prices(self):
        for graph in tame_graphs(100, most=8):
            value = worth(graph)
            for node in range(graph.size):
                dearer = worth(with_price(graph, node, graph.price(node) + 3))
                self.assertTrue(value <= dearer <= value + 3)
                for target in range(END, graph.size):
                    try:
                        more = worth(with_successor(graph, node, target))
                    except ForeworthError:
                        continue
                    self.assertTrue(more is None or more >= value)
        self.assertIsNone(worth(with_price(Graph(WILD), 1, 9)))


if __name__ == "__main__":
    unittest.main()
