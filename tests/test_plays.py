"""Points 58 and 63: plays."""

import unittest

from foreworth.errors import NotStanding
from foreworth.graph import END, Graph
from foreworth.plays import play
from foreworth.policies import ByRow, Fixed, LeastNode, MostLanes, Peek
from foreworth.rings import Ring
from foreworth.rounds import BehindGap, BehindNow
from foreworth.runs import price_of
from foreworth.schedules import is_complete
from foreworth.sweeps import Sweep
from tests.playing import Listening, played
from tests.samples import TWO_DOORS, random_graphs, random_runs, ring_graph, ring_run

LONG = Ring([10 ** 9] * 150, [0, 75])
RUNS = [[0, 1, 2, 3], [0, 2, 3], [0, 1]]


class PlayTest(unittest.TestCase):
    def setUp(self):
        self.graph = Graph(TWO_DOORS)

    def test_schedule(self):
        self.assertEqual(play(self.graph, RUNS, LeastNode()), [0, 1, 2, 3])
        self.assertEqual(play(self.graph, RUNS, ByRow([0, 1])), [0, 2, 1, 2, 3])
        self.assertEqual(play(self.graph, RUNS, Fixed([0, 2, 3, 1, 2, 3])), [0, 2, 3, 1, 2, 3])

    def test_what_the_policy_is_asked(self):
        policy = Listening(ByRow([0, 1]))
        play(self.graph, RUNS, policy)
        places = [[0, 0, 0], [1, 2, 1], [1, 3, 1], [2, 3, END], [3, 3, END]]
        self.assertEqual(policy.asked, [(standing, None) for standing in places])

    def test_sights(self):
        shown = {
            0: [[[], [], []]] * 5,
            1: [[[1], [2], [1]], [[2], [3], []], [[2], [], []], [[3], [], []], [[], [], []]],
            2: [[[1, 2], [2, 3], [1]], [[2, 3], [3], []], [[2, 3], [], []], [[3], [], []],
                [[], [], []]],
            50: [[[1, 2, 3], [2, 3], [1]], [[2, 3], [3], []], [[2, 3], [], []], [[3], [], []],
                 [[], [], []]],
        }
        for sight, told in shown.items():
            policy = Listening(ByRow([0, 1]))
            self.assertEqual(play(self.graph, RUNS, policy, sight=sight), [0, 2, 1, 2, 3])
            self.assertEqual([ahead for _, ahead in policy.asked], told, sight)

    def test_a_policy_that_looks_at_what_it_is_shown(self):
        self.assertEqual(play(self.graph, [[0, 2, 3], [0, 1, 2, 3]], Peek(), sight=3),
                         [0, 1, 2, 3])
        # Nodes 1 and 2 are shown ahead of each other, so the least one is taken.
        runs = [[0, 1, 2, 1], [0, 2, 1]]
        self.assertEqual(play(self.graph, runs, Peek(), sight=1), [0, 1, 2, 1])
        self.assertEqual(play(self.graph, runs, Peek()), [0, 1, 2, 1])

    def test_no_runs(self):
        policy = Listening(LeastNode())
        self.assertEqual(play(self.graph, [], policy), [])
        self.assertEqual(play(self.graph, [], policy, sight=3), [])
        self.assertEqual(policy.asked, [])

    def test_numbers_at_which_no_lane_stands(self):
        for node in (END, -2, 1, 2, 3, 4, 5, 1000):
            with self.assertRaises(NotStanding) as caught:
                play(self.graph, RUNS, Fixed([node]))
            self.assertEqual(caught.exception.node, node)
        # Lanes that have ended stand at END, but no beat names it.
        for row in ([0, 1, END], [0, 1, 1], [0, 1, -2], [0, 1, 4]):
            with self.assertRaises(NotStanding) as caught:
                play(self.graph, RUNS, Fixed(row))
            self.assertEqual(caught.exception.node, row[-1])

    def test_an_error_leaves_the_policy_as_it_was_asked(self):
        policy = Fixed([0, 3, 1, 2, 3])
        with self.assertRaises(NotStanding):
            play(self.graph, RUNS, policy)
        self.assertEqual([policy.pick([1]) for _ in range(4)], [1, 2, 3, END])

    def test_an_error_of_the_policy_passes(self):
        class Failing:
            def pick(self, standing, *, shown=None):
                raise KeyError("none")

        with self.assertRaises(KeyError):
            play(self.graph, RUNS, Failing())

    def test_the_policy_may_be_asked_further(self):
        policy = ByRow([0, 0, 0, 0, 1, 1])
        self.assertEqual(play(self.graph, RUNS, policy), [0, 1, 2, 3])
        self.assertEqual([policy.pick([3, 1, END]) for _ in range(3)], [3, 3, 1])
        for policy in (LeastNode(), MostLanes(), Peek(), BehindGap(self.graph),
                       BehindNow(self.graph), Sweep(self.graph, [3, 2, 1, 0])):
            play(self.graph, RUNS, policy, sight=2)
            self.assertIn(policy.pick([2, 2, END], shown=[[], [1], []]), (2,))

    def test_arguments_stay_and_the_schedule_is_new(self):
        runs = [list(run) for run in RUNS]
        seen = []

        class Spoiling:
            def pick(self, standing, *, shown=None):
                seen.append(shown)
                for run in runs:
                    run.clear()
                return min(node for node in standing if node != END)

        self.assertEqual(play(self.graph, runs, Spoiling(), sight=1), [0, 1, 2, 3])
        self.assertEqual(seen, [[[1], [2], [1]], [[2], [3], []], [[3], [3], []], [[], [], []]])
        row = [0, 2, 3, 1, 2, 3]
        policy = Fixed(row)
        schedule = play(self.graph, RUNS, policy)
        schedule.clear()
        self.assertEqual(row, [0, 2, 3, 1, 2, 3])
        self.assertEqual(play(self.graph, RUNS, Fixed(row)), row)
        self.assertEqual(RUNS, [[0, 1, 2, 3], [0, 2, 3], [0, 1]])

    def test_random_plays(self):
        for place, graph in enumerate(random_graphs(60)):
            runs = random_runs(graph, 4, seed=place)
            row = [(place * index) % 5 for index in range(30)]
            for sight in (None, 0, 1, 4):
                for first, second in ((ByRow(row), ByRow(row)), (Peek(), Peek())):
                    schedule = play(graph, runs, first, sight=sight)
                    self.assertEqual(schedule, played(graph, runs, second, sight))
                    self.assertTrue(is_complete(runs, schedule))
                    self.assertEqual(play(graph, runs, Fixed(schedule)), schedule)

    def test_limits(self):
        graph = ring_graph(LONG)
        runs = [ring_run(LONG, door, 3900 + lane) for lane, door in enumerate([0, 75] * 30)]
        policy = Listening(BehindGap(graph))
        schedule = play(graph, runs, policy, sight=50)
        self.assertTrue(is_complete(runs, schedule))
        # Nodes 0 and 151 cost 1, all others are in the ring.
        self.assertEqual(price_of(graph, schedule), 2 + 10 ** 9 * (len(schedule) - 2))
        self.assertEqual([len(ahead) for ahead in policy.asked[0][1]], [50] * 60)


if __name__ == "__main__":
    unittest.main()
