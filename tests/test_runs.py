"""Points 23 to 26: runs, logs, teams and choices."""

import unittest

from foreworth.errors import BadRun
from foreworth.graph import END, Graph
from foreworth.runs import check_team, choices_of, log_of, price_of, run_of
from tests.samples import TWO_DOORS, random_graphs, random_runs


class RunsTest(unittest.TestCase):
    def setUp(self):
        self.graph = Graph(TWO_DOORS)

    def test_run(self):
        self.assertEqual(run_of(self.graph, [0, 1]), ([0, 1], True))
        self.assertEqual(run_of(self.graph, [1, 0, 0, 1]), ([0, 2, 1, 2, 3], True))
        self.assertEqual(run_of(self.graph, [10 ** 9 + 1, 2, 4, 7]), ([0, 2, 1, 2, 3], True))

    def test_choices_used_up(self):
        self.assertEqual(run_of(self.graph, [1], limit=6), ([0, 2, 1, 2, 1, 2], False))
        self.assertEqual(run_of(self.graph, [], limit=3), ([0, 1, 2], False))

    def test_a_node_with_one_successor_takes_no_choice(self):
        graph = Graph([("a", 1, (1,)), ("b", 1, (0, END))])
        self.assertEqual(run_of(graph, [0, 1]), ([0, 1, 0, 1], True))

    def test_equal_successors_take_a_choice(self):
        graph = Graph([("a", 1, (1, 1)), ("b", 1, (0, END))])
        self.assertEqual(run_of(graph, [1, 0, 0, 1]), ([0, 1, 0, 1], True))

    def test_limits(self):
        self.assertEqual(run_of(self.graph, [0, 1], limit=0), ([], False))
        self.assertEqual(run_of(self.graph, [0, 1], limit=1), ([0], False))
        self.assertEqual(run_of(self.graph, [0, 1], limit=2), ([0, 1], True))
        self.assertEqual(run_of(self.graph, [0, 1], limit=3), ([0, 1], True))
        self.assertEqual(len(run_of(self.graph, [])[0]), 400)
        self.assertEqual(len(run_of(self.graph, [], limit=4000)[0]), 4000)

    def test_log_and_price(self):
        self.assertEqual(log_of(self.graph, [0, 2, 3]), [("a", 1, 2), ("c", 3, 2), ("d", 2, 1)])
        self.assertEqual(log_of(Graph([("a", 1, (0, 0, 0, END))]), [0]), [("a", 1, 4)])
        self.assertEqual(log_of(self.graph, []), [])
        self.assertEqual(price_of(self.graph, [1, 1, 3, 0]), 11)
        self.assertEqual(price_of(self.graph, []), 0)

    def test_choices_of_a_run(self):
        self.assertEqual(choices_of(self.graph, [0, 2, 1, 2, 3]), [1, 0, 0, 1])
        graph = Graph([("a", 1, (1, 1, 0)), ("b", 1, (2, END, 2, END)), ("c", 1, (1,))])
        self.assertEqual(choices_of(graph, [0, 0, 1, 2, 1]), [2, 0, 0, 1])
        self.assertEqual(choices_of(Graph([("a", 1, (END,))]), [0]), [])

    def test_choices_give_back_the_run(self):
        for graph in random_graphs(80):
            for run in random_runs(graph, 5):
                choices = choices_of(graph, run)
                for limit in (len(run), len(run) + 1):
                    self.assertEqual(run_of(graph, choices, limit=limit), (run, True))

    def test_long_runs(self):
        run = [0] + [1, 2] * 2000 + [1]
        check_team(self.graph, [run] * 3)
        choices = choices_of(self.graph, run)
        self.assertEqual(run_of(self.graph, choices, limit=len(run)), (run, True))

    def test_lists_are_new(self):
        run = [0, 2, 3]
        choices_of(self.graph, run).append(1)
        log_of(self.graph, run).append(1)
        choices = [1, 1]
        run_of(self.graph, choices)[0].append(7)
        self.assertEqual((run, choices), ([0, 2, 3], [1, 1]))
        self.assertEqual(run_of(self.graph, choices), ([0, 2, 3], True))


class TeamTest(unittest.TestCase):
    def setUp(self):
        self.graph = Graph(TWO_DOORS)

    def refused(self, runs, lane, place):
        with self.subTest(runs=runs), self.assertRaises(BadRun) as caught:
            check_team(self.graph, runs)
        self.assertEqual((caught.exception.lane, caught.exception.place), (lane, place))

    def test_teams(self):
        self.assertIsNone(check_team(self.graph, []))
        self.assertIsNone(check_team(self.graph, [[0, 1], [0, 1], [0, 2, 1, 2, 3]]))

    def test_empty_or_elsewhere(self):
        self.refused([[]], 0, 0)
        self.refused([[1]], 0, 0)
        self.refused([[-1]], 0, 0)
        self.refused([[7, 0]], 0, 0)

    def test_no_successor(self):
        self.refused([[0, 3]], 0, 1)
        self.refused([[0, 1, 3]], 0, 2)
        self.refused([[0, 1, 2, 0]], 0, 3)
        self.refused([[0, 0, 1]], 0, 1)

    def test_no_node(self):
        self.refused([[0, 1, -1]], 0, 2)
        self.refused([[0, 1, 2, 3, -1]], 0, 4)
        self.refused([[0, 1, -1, 3]], 0, 2)
        self.refused([[0, 4]], 0, 1)
        self.refused([[0, -3]], 0, 1)
        self.refused([[0, 1, 99]], 0, 2)

    def test_no_end(self):
        self.refused([[0]], 0, 1)
        self.refused([[0, 1, 2]], 0, 3)

    def test_the_first_lane_and_the_least_place(self):
        self.refused([[0, 1], [0, 2], [0, 3]], 1, 2)
        self.refused([[0, 1], [0, 3, 3], []], 1, 1)


if __name__ == "__main__":
    unittest.main()
