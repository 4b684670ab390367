"""Points 58 and 59: plain policies."""

import unittest
from random import Random

from foreworth.graph import END, Graph
from foreworth.machine import Machine
from foreworth.policies import ByRow, Fixed, LeastNode, MostLanes, Peek
from foreworth.schedules import is_complete, thin
from tests.playing import played
from tests.samples import TWO_DOORS, random_graphs, random_runs

SHOWN = (None, [[], [], [], [], []], [[1], [2, 5], [], [5, 5, 2], []])


class LeastNodeTest(unittest.TestCase):
    def test_least_node(self):
        policy = LeastNode()
        for shown in SHOWN:
            self.assertEqual(policy.pick([5, 2, END, 2, 7], shown=shown), 2)
            self.assertEqual(policy.pick([END, 9, END, END, END], shown=shown), 9)
            self.assertEqual(policy.pick([0, 0, 0, 3, 1], shown=shown), 0)
        self.assertEqual(policy.pick([4]), 4)


class MostLanesTest(unittest.TestCase):
    def test_most_lanes(self):
        policy = MostLanes()
        for shown in SHOWN:
            self.assertEqual(policy.pick([1, 5, 5, END, 2], shown=shown), 5)
            self.assertEqual(policy.pick([7, END, END, END, END], shown=shown), 7)
        self.assertEqual(policy.pick([3]), 3)

    def test_ties(self):
        policy = MostLanes()
        self.assertEqual(policy.pick([4, 3, 9]), 3)
        self.assertEqual(policy.pick([1, 8, 4, 8, 4]), 4)
        self.assertEqual(policy.pick([8, 8, 4, 4, 1, END, END, END]), 4)


class ByRowTest(unittest.TestCase):
    def test_numbers_count_the_distinct_nodes(self):
        policy = ByRow([0, 1, 2, 3, 7, 10 ** 9])
        standing = [9, 4, END, 9, 4, 6]
        told = [policy.pick(standing, shown=shown) for shown in SHOWN + SHOWN]
        self.assertEqual(told, [4, 6, 9, 4, 6, 6])

    def test_used_up(self):
        policy = ByRow([1])
        self.assertEqual([policy.pick([3, 5]) for _ in range(4)], [5, 3, 3, 3])
        self.assertEqual([ByRow([]).pick([3, 5]) for _ in range(2)], [3, 3])

    def test_the_count_may_change(self):
        policy = ByRow([2, 2, 2])
        self.assertEqual(policy.pick([1, 3, 5, END]), 5)
        self.assertEqual(policy.pick([1, 3, END, END]), 1)
        self.assertEqual(policy.pick([3, 3, END, 3]), 3)

    def test_rows_are_not_shared(self):
        row = [1, 1, 1]
        one, other = ByRow(row), ByRow(row)
        row.clear()
        self.assertEqual([one.pick([3, 5]) for _ in range(4)], [5, 5, 5, 3])
        self.assertEqual([other.pick([3, 5]) for _ in range(4)], [5, 5, 5, 3])


class PeekTest(unittest.TestCase):
    def test_nothing_shown(self):
        self.assertEqual(Peek().pick([5, 2, END, 2, 7]), 2)
        self.assertEqual(Peek().pick([5, 2, END, 2, 7], shown=None), 2)
        self.assertEqual(Peek().pick([5, 2, END, 2, 7], shown=[[], [], [], [], []]), 2)

    def test_nodes_to_which_others_come(self):
        policy = Peek()
        self.assertEqual(policy.pick([5, 2, 7], shown=[[2], [], []]), 5)
        self.assertEqual(policy.pick([5, 2, 7], shown=[[1, 1, 2], [5], []]), 7)
        self.assertEqual(policy.pick([5, 2, END], shown=[[3], [5], []]), 2)
        self.assertEqual(policy.pick([END, 2, 7], shown=[[], [7, 7], [9]]), 2)

    def test_lanes_at_the_node_itself_do_not_count(self):
        policy = Peek()
        self.assertEqual(policy.pick([2, 5, 2], shown=[[3, 2], [3], [2, 2]]), 2)
        self.assertEqual(policy.pick([2, 5, 2], shown=[[3, 2], [3, 2], [2]]), 5)

    def test_every_node_is_among_the_shown_ones(self):
        self.assertEqual(Peek().pick([5, 2], shown=[[2], [5]]), 2)
        self.assertEqual(Peek().pick([9, 5, 7], shown=[[7], [9], [5]]), 5)

    def test_it_remembers_nothing(self):
        policy = Peek()
        self.assertEqual(policy.pick([5, 2], shown=[[2], []]), 5)
        self.assertEqual(policy.pick([5, 2], shown=[[], []]), 2)
        self.assertEqual(policy.pick([5, 2]), 2)


class FixedTest(unittest.TestCase):
    def test_whatever_stands_there(self):
        policy = Fixed([3, -7, END, 10 ** 9])
        told = [policy.pick([0, 1], shown=shown) for shown in SHOWN + SHOWN]
        self.assertEqual(told, [3, -7, END, 10 ** 9, END, END])

    def test_end_behind_the_row(self):
        self.assertEqual([Fixed([]).pick([0]) for _ in range(2)], [END, END])

    def test_rows_are_not_shared(self):
        row = [4, 5]
        one, other = Fixed(row), Fixed(row)
        row[0] = 9
        self.assertEqual([one.pick([0]), one.pick([0]), one.pick([0])], [4, 5, END])
        self.assertEqual([other.pick([0]), other.pick([0]), other.pick([0])], [4, 5, END])

    def test_the_play_by_a_complete_schedule_is_this_schedule(self):
        graph = Graph(TWO_DOORS)
        runs = [[0, 1, 2, 3], [0, 2, 3]]
        for schedule in ([0, 1, 2, 3], [0, 2, 3, 1, 2, 3], [0, 2, 1, 2, 3]):
            self.assertEqual(played(graph, runs, Fixed(schedule)), schedule)


class PlainPoliciesTest(unittest.TestCase):
    def policies(self):
        return [LeastNode(), MostLanes(), ByRow([3, 1, 4, 1, 5, 9, 2, 6]), Peek()]

    def test_arguments_stay(self):
        for policy in [*self.policies(), Fixed([2])]:
            standing, shown = [5, 2, END], [[2], [5, 5], []]
            policy.pick(standing, shown=shown)
            self.assertEqual((standing, shown), ([5, 2, END], [[2], [5, 5], []]))

    def test_lanes_stand_at_the_named_nodes(self):
        source = Random(51)
        for graph in random_graphs(40):
            runs = random_runs(graph, 5)
            for sight in (None, 0, 1, 3, 50):
                for policy in self.policies():
                    schedule = played(graph, runs, policy, sight)
                    self.assertTrue(is_complete(runs, schedule))
                    self.assertLessEqual(len(schedule), sum(len(run) for run in runs))
                    self.assertEqual(played(graph, runs, Fixed(schedule), sight), schedule)
            # A schedule without idle beats can be played, too.
            schedule = thin(runs, [node for run in runs[::-1] for node in run])
            self.assertEqual(played(graph, runs, Fixed(schedule)), schedule)
            row = [source.randint(0, 9) for _ in range(5)]
            self.check_row(graph, runs, row)

    def check_row(self, graph, runs, row):
        machine = Machine(graph, runs)
        for node in played(graph, runs, ByRow(row)):
            nodes = sorted(set(machine.standing()) - {END})
            number = row.pop(0) if row else 0
            self.assertEqual(node, nodes[number % len(nodes)])
            machine.beat(node)


if __name__ == "__main__":
    unittest.main()
