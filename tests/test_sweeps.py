"""Point 62: sweeping by an order."""

import unittest
from random import Random

from foreworth.components import component_of, components
from foreworth.errors import BadOrder
from foreworth.graph import END, Graph
from foreworth.runs import price_of
from foreworth.sweeps import Sweep, back_steps
from tests.playing import played
from tests.samples import TWO_DOORS, WILD, random_graphs, random_runs


class SweepTest(unittest.TestCase):
    def setUp(self):
        # Nodes 1 to 3 are one component.
        self.graph = Graph(WILD)

    def test_the_order_counts(self):
        self.assertEqual(Sweep(self.graph, [0, 1, 2, 3, 4]).pick([3, 2, 1]), 1)
        self.assertEqual(Sweep(self.graph, [3, 0, 4, 2, 1]).pick([3, 2, 1]), 3)
        self.assertEqual(Sweep(self.graph, [4, 2, 1, 0, 3]).pick([1, 3]), 1)

    def test_sweeps_begin_anew(self):
        policy = Sweep(self.graph, [2, 0, 3, 1, 4])
        self.assertEqual(policy.pick([3, 1]), 3)
        self.assertEqual(policy.pick([3, 1]), 1)
        self.assertEqual(policy.pick([3, 2]), 2)
        self.assertEqual(policy.pick([2, 3]), 3)
        # Nothing stands behind node 3, which is named again.
        self.assertEqual(policy.pick([3, 3]), 3)
        self.assertEqual(policy.pick([3, 2]), 2)
        self.assertEqual(policy.pick([2, END]), 2)

    def test_the_first_component_at_which_a_lane_stands(self):
        policy = Sweep(self.graph, [4, 3, 2, 1, 0])
        self.assertEqual(policy.pick([4, 0, 2, 1]), 0)
        self.assertEqual(policy.pick([4, 1, 2, END]), 2)
        self.assertEqual(policy.pick([4, 1, 2, END]), 1)
        # What was named elsewhere does not matter.
        self.assertEqual(policy.pick([0, 2]), 0)
        self.assertEqual(policy.pick([4, 1, 2, 3]), 3)
        self.assertEqual(policy.pick([4, END]), 4)
        graph = Graph([("a", 1, (3, 2)), ("b", 1, (END,)), ("c", 1, (END,)), ("d", 1, (1,))])
        policy = Sweep(graph, [1, 3, 2, 0])
        self.assertEqual([policy.pick([1, 3, 2]), policy.pick([1, 3]), policy.pick([1])], [2, 3, 1])

    def test_what_is_shown_does_not_matter(self):
        policy = Sweep(self.graph, [0, 1, 2, 3, 4])
        self.assertEqual(policy.pick([3, 2], shown=[[1], [1, 3]]), 2)
        self.assertEqual(policy.pick([3, 2], shown=[[], []]), 3)

    def test_bad_orders(self):
        for order in ([], [0, 1, 2, 3], [0, 1, 2, 3, 4, 4], [0, 1, 2, 3, 3], [0, 1, 2, 3, 5],
                      [0, 1, 2, 3, -1], [1, 2, 3, 4, 5], [0, 1, 2, 3, 4, 5], [0, 0, 1, 2, 3, 4],
                      [-1, 0, 1, 2, 3, 4]):
            with self.assertRaises(BadOrder):
                Sweep(self.graph, order)
            with self.assertRaises(BadOrder):
                back_steps(self.graph, order, [0, 1, 3, 4])

    def test_sweeps_share_nothing(self):
        order = [0, 3, 2, 1, 4]
        one, other = Sweep(self.graph, order), Sweep(self.graph, order)
        order.reverse()
        standing = [3, 2, 1]
        self.assertEqual([one.pick(standing) for _ in range(4)], [3, 2, 1, 3])
        self.assertEqual([other.pick(standing) for _ in range(4)], [3, 2, 1, 3])
        self.assertEqual(standing, [3, 2, 1])


class BackStepsTest(unittest.TestCase):
    def test_single_components_have_none(self):
        self.assertEqual(back_steps(Graph(TWO_DOORS), [3, 2, 1, 0], [0, 2, 3]), [0, 0, 0])

    def test_rings(self):
        graph = Graph(TWO_DOORS)
        run = [0, 1, 2, 1, 2, 3]
        self.assertEqual(back_steps(graph, [0, 1, 2, 3], run), [0, 1, 0])
        self.assertEqual(back_steps(graph, [2, 1, 0, 3], run), [0, 2, 0])
        self.assertEqual(back_steps(graph, [3, 2, 0, 1], [0, 2, 1, 2, 1]), [0, 1, 0])
        self.assertEqual(back_steps(graph, [0, 1, 2, 3], [0, 1]), [0, 0, 0])

    def test_wild_components(self):
        graph = Graph(WILD)
        run = [0, 1, 2, 1, 3, 1, 2, 1, 3, 4]
        self.assertEqual(back_steps(graph, [0, 1, 2, 3, 4], run), [0, 3, 0])
        self.assertEqual(back_steps(graph, [4, 3, 2, 1, 0], run), [0, 4, 0])
        self.assertEqual(back_steps(graph, [2, 1, 3, 0, 4], run), [0, 3, 0])

    def test_an_edge_from_a_node_to_itself(self):
        graph = Graph([("a", 1, (0, 1)), ("b", 1, (1, 2, END)), ("c", 1, (1, 2, END))])
        run = [0, 0, 0, 1, 1, 2, 2, 2, 1]
        self.assertEqual(back_steps(graph, [0, 1, 2], run), [2, 4])
        self.assertEqual(back_steps(graph, [2, 0, 1], run), [2, 4])
        self.assertEqual(back_steps(graph, [2, 0, 1], [0, 1, 1, 2]), [0, 2])

    def test_lists_stay_and_are_new(self):
        graph = Graph(TWO_DOORS)
        order, run = [0, 1, 2, 3], [0, 1, 2, 1]
        back_steps(graph, order, run).clear()
        self.assertEqual((order, run), ([0, 1, 2, 3], [0, 1, 2, 1]))
        self.assertEqual(back_steps(graph, order, run), [0, 1, 0])

    def test_bills_of_sweeps(self):
        source = Random(61)
        for graph in random_graphs(120):
            runs = random_runs(graph, 4)
            order = list(range(graph.size))
            source.shuffle(order)
            index = component_of(graph)
            for run in runs:
                steps = [index[one] for one, other in zip(run, run[1:])
                         if index[one] == index[other] and order.index(other) <= order.index(one)]
                expected = [steps.count(at) for at in range(max(index) + 1)]
                self.assertEqual(back_steps(graph, order, run), expected)
            schedule = played(graph, runs, Sweep(graph, order))
            for at, nodes in enumerate(components(graph)):
                bill = price_of(graph, [node for node in schedule if index[node] == at])
                most = max((back_steps(graph, order, run)[at] for run in runs), default=-1)
                self.assertLessEqual(bill, price_of(graph, nodes) * (1 + most))


if __name__ == "__main__":
    unittest.main()
