"""Points 25, 27 and 28: machines."""

import unittest
from random import Random

from foreworth.errors import BadNode, BadRun, NotStanding
from foreworth.graph import END, Graph
from foreworth.machine import Machine
from foreworth.runs import price_of
from foreworth.schedules import prefixes
from tests.samples import TWO_DOORS, random_graphs, random_runs

RUNS = [[0, 1, 2, 3], [0, 2, 3], [0, 1]]


class MachineTest(unittest.TestCase):
    def setUp(self):
        self.graph = Graph(TWO_DOORS)
        self.machine = Machine(self.graph, RUNS)

    def state(self):
        machine = self.machine
        at = [machine.at(node) for node in range(-2, 6)]
        return (machine.bill, machine.over, machine.standing(), machine.done(), at,
                machine.schedule())

    def test_new_machine(self):
        self.assertEqual(self.machine.standing(), [0, 0, 0])
        self.assertEqual(self.machine.done(), [0, 0, 0])
        self.assertEqual(self.machine.at(0), [0, 1, 2])
        self.assertEqual(self.machine.schedule(), [])
        self.assertEqual(self.machine.bill, 0)
        self.assertIs(self.machine.over, False)

    def test_beats(self):
        self.assertEqual(self.machine.beat(0), [0, 1, 2])
        self.assertEqual(self.machine.standing(), [1, 2, 1])
        self.assertEqual(self.machine.beat(1), [0, 2])
        self.assertEqual(self.machine.standing(), [2, 2, END])
        self.assertEqual(self.machine.done(), [2, 1, 2])
        self.assertEqual(self.machine.at(2), [0, 1])
        self.assertEqual(self.machine.at(END), [2])
        self.assertEqual(self.machine.at(1), [])
        self.assertIs(self.machine.over, False)
        self.assertEqual(self.machine.beat(2), [0, 1])
        self.assertEqual(self.machine.beat(3), [0, 1])
        self.assertIs(self.machine.over, True)
        self.assertEqual(self.machine.standing(), [END, END, END])
        self.assertEqual(self.machine.at(END), [0, 1, 2])
        self.assertEqual(self.machine.schedule(), [0, 1, 2, 3])
        self.assertEqual(self.machine.bill, 10)

    def test_a_beat_costs_its_price_also_if_no_lane_moves(self):
        self.assertEqual(self.machine.beat(3), [])
        self.assertEqual(self.machine.bill, 2)
        self.assertEqual(self.machine.schedule(), [3])
        self.assertEqual(self.machine.standing(), [0, 0, 0])
        self.assertEqual(self.machine.beat(0, lanes=[]), [])
        self.assertEqual(self.machine.beat(2, lanes=[]), [])
        self.assertEqual(self.machine.bill, 6)
        self.assertEqual(self.machine.standing(), [0, 0, 0])

    def test_listed_lanes(self):
        self.assertEqual(self.machine.beat(0, lanes=[2, 0]), [0, 2])
        self.assertEqual(self.machine.standing(), [1, 0, 1])
        self.assertEqual(self.machine.beat(1, lanes=[2, 2]), [2])
        self.assertEqual(self.machine.done(), [1, 0, 2])
        self.assertEqual(self.machine.at(END), [2])
        self.assertEqual(self.machine.bill, 5)

    def test_bad_beats_change_nothing(self):
        self.machine.beat(0)
        self.machine.beat(1)
        before = self.state()
        for node in (-1, -2, 4, 99):
            for lanes in (None, [], [0], [99]):
                with self.assertRaises(BadNode) as caught:
                    self.machine.beat(node, lanes=lanes)
                self.assertEqual(caught.exception.node, node)
                self.assertEqual(self.state(), before)
        for node, lanes in ((2, [2]), (2, [0, 3]), (2, [0, -1]), (2, [-3]), (1, [0]), (0, [1, 0]),
                            (3, [2])):
            with self.assertRaises(NotStanding) as caught:
                self.machine.beat(node, lanes=lanes)
            self.assertEqual(caught.exception.node, node)
            self.assertEqual(self.state(), before)

    def test_numbers_where_no_lane_stands(self):
        self.machine.beat(0)
        self.machine.beat(1)
        self.assertEqual([self.machine.at(node) for node in (-2, -5, 4, 50)], [[], [], [], []])

    def test_bad_runs(self):
        with self.assertRaises(BadRun) as caught:
            Machine(self.graph, [[0, 1], [0, 1, 1]])
        self.assertEqual((caught.exception.lane, caught.exception.place), (1, 2))

    def test_no_lanes(self):
        machine = Machine(self.graph, [])
        self.assertIs(machine.over, True)
        self.assertEqual(machine.beat(1), [])
        self.assertEqual((machine.standing(), machine.done(), machine.bill), ([], [], 4))

    def test_lists_are_not_shared(self):
        runs = [list(run) for run in RUNS]
        machine = Machine(self.graph, runs)
        runs[0][1] = 3
        runs.pop()
        lanes = [0, 0]
        machine.beat(0, lanes=lanes).append(1)
        self.assertEqual(lanes, [0, 0])
        machine.beat(0).append(0)
        self.assertEqual(machine.standing(), [1, 2, 1])
        machine.standing().clear()
        machine.done().clear()
        machine.at(1).clear()
        machine.schedule().clear()
        self.assertEqual(machine.standing(), [1, 2, 1])
        self.assertEqual(machine.done(), [1, 1, 1])
        self.assertEqual(machine.at(1), [0, 2])
        self.assertEqual(machine.schedule(), [0, 0])

    def test_what_a_schedule_executes(self):
        source = Random(6)
        for graph in random_graphs(40):
            runs = random_runs(graph, 4)
            machine, held = Machine(graph, runs), Machine(graph, runs)
            for _ in range(12):
                node = source.randint(0, graph.size - 1)
                machine.beat(node)
                held.beat(node, lanes=[lane for lane in held.at(node) if source.randint(0, 1)])
                self.assertEqual(machine.done(), prefixes(runs, machine.schedule()))
                self.assertEqual(machine.over, machine.done() == [len(run) for run in runs])
                self.assertEqual(machine.bill, price_of(graph, machine.schedule()))
                self.assertTrue(all(a <= b for a, b in zip(held.done(), machine.done())))


if __name__ == "__main__":
    unittest.main()
