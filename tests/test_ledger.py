"""Point 64: ledgers."""

import unittest

from foreworth.errors import BadRun, Incomplete, MixedGraphs, TooLarge
from foreworth.graph import END, Graph
from foreworth.least import loss
from foreworth.ledger import Ledger
from foreworth.plays import play
from foreworth.policies import LeastNode
from tests.samples import TWO_DOORS, WILD, random_graphs, random_runs

RUNS = [[0, 1, 2, 3], [0, 2, 3]]
# The bills of these two are 10 and 13, the least bill is 10.
GOOD = [0, 1, 2, 3]
POOR = [0, 2, 1, 2, 3]


class LedgerTest(unittest.TestCase):
    def setUp(self):
        self.graph = Graph(TWO_DOORS)
        self.ledger = Ledger(self.graph)

    def state(self, ledger):
        return (ledger.losses(), list(ledger), ledger.total, ledger.worst)

    def test_no_losses(self):
        self.assertEqual(self.state(self.ledger), ([], [], 0, 0))
        self.assertEqual(self.state(self.ledger + Ledger(self.graph)), ([], [], 0, 0))

    def test_losses(self):
        self.assertEqual(self.ledger.add(RUNS, POOR), 3)
        self.assertEqual(self.ledger.add(RUNS, GOOD), 0)
        self.assertEqual(self.ledger.add([], []), 0)
        self.assertEqual(self.ledger.add([[0, 1]], [0, 1, 1, 3]), 6)
        self.assertEqual(self.ledger.add(RUNS, POOR), 3)
        self.assertEqual(self.state(self.ledger), ([3, 0, 0, 6, 3], [3, 0, 0, 6, 3], 12, 6))
        self.assertEqual([number + 1 for number in self.ledger], [4, 1, 1, 7, 4])
        self.assertEqual(self.state(self.ledger), ([3, 0, 0, 6, 3], [3, 0, 0, 6, 3], 12, 6))

    def test_losses_of_plays(self):
        for place, graph in enumerate(random_graphs(40)):
            ledger = Ledger(graph)
            told = []
            for seed in range(3):
                runs = random_runs(graph, 2, seed=place + seed)
                schedule = play(graph, runs, LeastNode())
                try:
                    told.append(loss(graph, runs, schedule))
                except TooLarge:
                    with self.assertRaises(TooLarge):
                        ledger.add(runs, schedule)
                else:
                    self.assertEqual(ledger.add(runs, schedule), told[-1])
            self.assertEqual(self.state(ledger), (told, told, sum(told), max([0] + told)))

    def test_wrong_runs_come_first(self):
        self.ledger.add(RUNS, POOR)
        for runs, fault in (([[0, 1], []], (1, 0)), ([[1, 2, 3], [0, 7]], (0, 0)),
                            ([[0, 3]], (0, 1)), ([[0, 2]], (0, 2)), ([[0, 1, END]], (0, 2))):
            for schedule in ([], GOOD):
                with self.assertRaises(BadRun) as caught:
                    self.ledger.add(runs, schedule)
                self.assertEqual((caught.exception.lane, caught.exception.place), fault)
        self.assertEqual(self.state(self.ledger), ([3], [3], 3, 3))

    def test_incomplete_schedules_come_next(self):
        for schedule in ([], [0, 1, 3], [0, 2, 1, 3], [0, 1, 2]):
            with self.assertRaises(Incomplete):
                self.ledger.add(RUNS, schedule)
        self.assertEqual(self.state(self.ledger), ([], [], 0, 0))

    def test_too_large_teams_come_last(self):
        ledger = Ledger(Graph(WILD))
        long = [[0, *[1, 2] * 20, 1, 3, 4], [0, *[1, 3] * 20, 1, 3, 4], [0, *[1, 2, 1, 3] * 20, 4]]
        complete = [node for run in long for node in run]
        with self.assertRaises(TooLarge):
            ledger.add(long, complete)
        with self.assertRaises(Incomplete):
            ledger.add(long, complete[:-1])
        with self.assertRaises(BadRun):
            ledger.add([*long, [0]], complete[:-1])
        self.assertEqual(self.state(ledger), ([], [], 0, 0))
        self.assertEqual(ledger.add(long[:1], complete), sum(
            Graph(WILD).price(node) for run in long[1:] for node in run))

    def test_sum(self):
        other = Ledger(Graph([list(row) for row in TWO_DOORS]))
        self.ledger.add(RUNS, POOR)
        self.ledger.add(RUNS, GOOD)
        other.add([[0, 1]], [0, 1, 1])
        both = self.ledger + other
        self.assertIsInstance(both, Ledger)
        self.assertEqual(self.state(both), ([3, 0, 4], [3, 0, 4], 7, 4))
        self.assertEqual((other + self.ledger).losses(), [4, 3, 0])
        self.assertEqual((self.ledger + self.ledger).losses(), [3, 0, 3, 0])
        self.assertEqual(self.ledger.losses(), [3, 0])
        self.assertEqual(other.losses(), [4])

    def test_ledgers_do_not_touch_each_other(self):
        other = Ledger(self.graph)
        self.ledger.add(RUNS, POOR)
        both = self.ledger + other
        self.ledger.add(RUNS, GOOD)
        other.add(RUNS, POOR)
        self.assertEqual(both.losses(), [3])
        # The sum has a graph of its own, by which it goes on.
        self.assertEqual(both.add([[0, 1]], [0, 1, 1]), 4)
        self.assertEqual(both.losses(), [3, 4])
        self.assertEqual(self.ledger.losses(), [3, 0])
        self.assertEqual(other.losses(), [3])
        self.assertEqual((both + other).losses(), [3, 4, 3])

    def test_graphs_of_different_rows(self):
        self.ledger.add(RUNS, POOR)
        word, price, targets = TWO_DOORS[1]
        for row in (("c", price, targets), (word, price + 1, targets), (word, price, (END, 2)),
                    (word, price, (2, END, END))):
            other = Ledger(Graph([TWO_DOORS[0], row, *TWO_DOORS[2:]]))
            for first, second in ((self.ledger, other), (other, self.ledger)):
                with self.assertRaises(MixedGraphs):
                    first + second
            self.assertEqual(self.state(self.ledger), ([3], [3], 3, 3))
            self.assertEqual(self.state(other), ([], [], 0, 0))

    def test_what_is_passed_and_returned_may_be_changed(self):
        runs = [list(run) for run in RUNS]
        schedule = list(POOR)
        self.ledger.add(runs, schedule)
        self.assertEqual((runs, schedule), (RUNS, POOR))
        runs.clear()
        schedule.clear()
        self.ledger.losses().append(5)
        self.assertEqual(self.state(self.ledger), ([3], [3], 3, 3))

    def test_limits(self):
        rows = [("a", 10 ** 9, (node + 1,)) for node in range(198)]
        graph = Graph([*rows, ("b", 10 ** 9, (199,)), ("c", 10 ** 9, (199, END))])
        runs = [[*range(199), *[199] * (3700 + lane)] for lane in range(60)]
        ledger = Ledger(graph)
        schedule = [*range(199), *[199] * 19000]
        self.assertEqual(ledger.add(runs, schedule), (19000 - 3759) * 10 ** 9)
        self.assertEqual(ledger.total, (19000 - 3759) * 10 ** 9)


if __name__ == "__main__":
    unittest.main()
