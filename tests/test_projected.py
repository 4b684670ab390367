"""Points 76 and 77: projected policies and cover checks."""

import unittest

from foreworth.adversary import RingAdversary
from foreworth.covers import extra, lift
from foreworth.duel import duel
from foreworth.errors import NotStanding, WildProgram
from foreworth.graph import END, Graph
from foreworth.joins import join
from foreworth.least import least
from foreworth.machine import Machine
from foreworth.plays import play
from foreworth.policies import ByRow, Fixed, LeastNode, MostLanes
from foreworth.projected import Projected, check_cover
from foreworth.rings import Ring
from foreworth.rounds import BehindGap, BehindNow
from foreworth.routes import full_routes, route_of
from foreworth.runs import check_team, choices_of, price_of, run_of
from foreworth.schedules import is_complete
from foreworth.sweeps import Sweep
from foreworth.worth import worth
from tests.playing import Listening
from tests.samples import (
    TWO_DOORS, WILD, random_cover, random_graphs, random_runs, ring_graph, tame_graphs)

# The doors of TWO_DOORS joined the other way: node 4 is a copy of node 1.
JOINED = [("a", 1, (4, 2)), ("b", 4, (2, END)), ("c", 3, (1, 3)), ("d", 2, (END,)),
          ("b", 4, (2, END))]
BELOW = [0, 1, 2, 3, 1]


class SlowProjected:
    """Point 76 word by word: where a lane stands in the cover is found by its whole lift."""

    def __init__(self, top, bottom, mapping, policy):
        self.top, self.bottom = top, bottom
        self.mapping, self.policy = mapping, policy
        self.walked = None
        self.done = None
        self.named = None
        self.stood = None

    def pick(self, standing, *, shown=None):
        if self.walked is None:
            self.walked = [[] for _ in standing]
            self.done = [0 for _ in standing]
        else:
            for lane, node in enumerate(self.stood):
                if node == self.mapping[self.named]:
                    self.walked[lane].append(node)
        self.stood = list(standing)
        self.move()
        while True:
            self.named = self.policy.pick(self.places(), shown=None)
            there = [lane for lane, place in enumerate(self.places()) if place == self.named]
            if not all(len(self.walked[lane]) > self.done[lane] for lane in there):
                return self.mapping[self.named]
            self.move()

    def move(self):
        """Complete the last beat in the cover."""
        places = self.places()
        for lane, place in enumerate(places):
            if place == self.named:
                self.done[lane] += 1

    def places(self):
        return [self.place(lane) for lane in range(len(self.stood))]

    def place(self, lane):
        way = self.walked[lane] + [self.stood[lane]]
        node = 0
        for before, behind in list(zip(way, way[1:]))[:self.done[lane]]:
            node = self.top.successors(node)[self.bottom.successors(before).index(behind)]
        return node


def policies_of(graph, seed):
    """New policies of a graph."""
    row = [(seed * index) % 7 for index in range(200)]
    order = [(node * 3 + seed) % graph.size for node in range(graph.size)]
    order = sorted(range(graph.size), key=lambda node: (order[node], node))
    return [LeastNode(), MostLanes(), ByRow(row), Sweep(graph, order)]


def tame_policies(graph, seed):
    """New policies of a graph without wild components."""
    return [*policies_of(graph, seed), BehindGap(graph), BehindNow(graph)]


class ProjectedTest(unittest.TestCase):
    def setUp(self):
        self.top = Graph(JOINED)
        self.bottom = Graph(TWO_DOORS)

    def projected(self, policy):
        return Projected(self.top, self.bottom, BELOW, policy)

    def test_what_is_asked_and_named(self):
        inner = Listening(LeastNode())
        policy = self.projected(inner)
        # The lanes stand at nodes 1 and 2, above which are nodes 4 and 2.
        self.assertEqual(policy.pick([0, 0]), 0)
        self.assertEqual(policy.pick([1, 2]), 2)
        self.assertEqual(policy.pick([1, 1]), 1)
        # Both moved, but node 1 of the cover is that of lane 1 alone: lane 0 is behind.
        self.assertEqual(policy.pick([2, 2]), 2)
        self.assertEqual([standing for standing, _ in inner.asked],
                         [[0, 0], [4, 2], [4, 1], [4, 2]])
        # Lane 0 moved in the graph three times, but in the cover it stands at node 4 still.
        self.assertEqual(policy.pick([3, 3]), 3)
        self.assertEqual([standing for standing, _ in inner.asked[4:]], [[4, 3]])
        self.assertEqual({shown for _, shown in inner.asked}, {None})

    def test_lanes_that_are_behind_move_alone(self):
        inner = Listening(ByRow([0, 1, 0, 1, 1, 1]))
        policy = self.projected(inner)
        self.assertEqual(policy.pick([0, 0]), 0)
        # The row names node 4 of nodes 2 and 4, then node 1.
        self.assertEqual(policy.pick([1, 2]), 1)
        self.assertEqual(policy.pick([2, 2]), 2)
        self.assertEqual([standing for standing, _ in inner.asked], [[0, 0], [4, 2], [2, 2]])

    def test_no_beat_where_all_lanes_are_behind(self):
        # The policy of the cover names node 1 for lane 1, which moves lane 0 from node 1
        # of the graph, too. Then it names node 4, where lane 0 is behind, and is asked again.
        inner = Listening(Fixed([0, 2, 1, 4, 2, 3]))
        policy = self.projected(inner)
        for standing, node in (([0, 0], 0), ([1, 2], 2), ([1, 1], 1), ([2, 2], 2), ([3, 3], 3)):
            self.assertEqual(policy.pick(standing), node)
        self.assertEqual([standing for standing, _ in inner.asked],
                         [[0, 0], [4, 2], [4, 1], [4, 2], [2, 2], [3, 3]])

    def test_lanes_that_stand_at_the_same_node_again(self):
        bottom = Graph([("a", 2, (0, END))])
        top = Graph([("a", 2, (1, END)), ("a", 2, (2, END)), ("a", 2, (0, END))])
        inner = Listening(LeastNode())
        policy = Projected(top, bottom, [0, 0, 0], inner)
        for standing in ([0, 0], [0, 0], [0, END], [0, END], [0, END]):
            self.assertEqual(policy.pick(standing), 0)
        self.assertEqual([standing for standing, _ in inner.asked],
                         [[0, 0], [1, 1], [2, END], [0, END], [1, END]])

    def test_teams_of_no_run_and_of_one(self):
        self.assertEqual(play(self.bottom, [], self.projected(LeastNode())), [])
        for run in ([0, 1], [0, 1, 2, 1, 2, 3], [0, 2, 1, 2, 3]):
            for policy in tame_policies(self.top, 3):
                self.assertEqual(play(self.bottom, [run], self.projected(policy)), run)

    def test_successors_that_are_named_twice(self):
        # The lift takes the first of two successors that are the same node below.
        bottom = Graph([("a", 1, (1, 1)), ("b", 1, (0, END))])
        top = Graph([("a", 1, (1, 2)), ("b", 1, (0, END)), ("b", 1, (0, END))])
        inner = Listening(LeastNode())
        play(bottom, [[0, 1, 0, 1]], Projected(top, bottom, [0, 1, 1], inner))
        self.assertEqual([standing for standing, _ in inner.asked], [[0], [1], [0], [1]])

    def test_random_plays(self):
        for place, bottom in enumerate(random_graphs(100, seed=25)):
            top, mapping = random_cover(bottom, 3, seed=place)
            runs = random_runs(bottom, 5, seed=place)
            lifted = [lift(top, bottom, run) for run in runs]
            self.check_plays(top, bottom, mapping, runs, lifted, policies_of, place)

    def test_random_plays_of_tame_graphs(self):
        for place, bottom in enumerate(tame_graphs(100, most=10, seed=26)):
            top, mapping = join(bottom)
            if place % 2 == 0:
                top, mapping = random_cover(bottom, 2, seed=place)
            runs = random_runs(bottom, 5, seed=place)
            lifted = [run_of(top, choices_of(bottom, run), limit=100)[0] for run in runs]
            try:
                self.check_plays(top, bottom, mapping, runs, lifted, tame_policies, place)
            except WildProgram:
                pass

    def check_plays(self, top, bottom, mapping, runs, lifted, policies, seed):
        """A projected policy is as the slow one, and no dearer than the policy itself."""
        trio = zip(policies(top, seed), policies(top, seed), policies(top, seed))
        for first, second, third in trio:
            schedule = play(bottom, runs, Projected(top, bottom, mapping, first))
            slow = play(bottom, runs, SlowProjected(top, bottom, mapping, second))
            self.assertEqual(schedule, slow)
            self.assertTrue(is_complete(runs, schedule))
            self.assertLessEqual(price_of(bottom, schedule), price_of(top, play(top, lifted, third)))

    def test_the_least_schedule_of_the_cover(self):
        # Its beats are named one by one, also where all lanes that move by them are behind.
        for place, bottom in enumerate(tame_graphs(60, most=10, seed=27)):
            top, mapping = join(bottom)
            runs = random_runs(bottom, 4, seed=place)
            bill, row = least(top, [lift(top, bottom, run) for run in runs])
            schedule = play(bottom, runs, Projected(top, bottom, mapping, Fixed(row)))
            self.assertLessEqual(price_of(bottom, schedule), bill)
            self.assertTrue(is_complete(runs, schedule))

    def test_every_policy_of_a_cover_loses_in_duels(self):
        for place, bottom in enumerate(tame_graphs(60, most=10, seed=28)):
            top, mapping = join(bottom)
            for inner, other in zip(tame_policies(top, place), tame_policies(top, place)):
                foe = RingAdversary(bottom, full_routes(bottom))
                runs, _ = duel(foe, Projected(top, bottom, mapping, inner))
                lifted = [lift(top, bottom, run) for run in runs]
                self.assertGreaterEqual(price_of(top, play(top, lifted, other)),
                                        least(bottom, runs)[0] + worth(bottom))

    def test_the_very_policy_is_asked(self):
        inner = ByRow([0, 0, 0, 1])
        self.projected(inner).pick([0, 0])
        self.projected(inner).pick([0])
        self.assertEqual([inner.pick([1, 2]), inner.pick([1, 2])], [1, 2])

    def test_numbers_that_are_no_nodes(self):
        # END is below END, so a play ends where the row of the inner policy does.
        for row, node in (([0, END], END), ([0], END), ([0, 5], 5), ([0, 7], 7), ([0, -2], -2)):
            with self.assertRaises(NotStanding) as caught:
                play(self.bottom, [[0, 1], [0, 2, 3]], self.projected(Fixed(row)))
            self.assertEqual(caught.exception.node, node)

    def test_a_node_at_which_no_lane_stands_in_the_cover(self):
        with self.assertRaises(NotStanding) as caught:
            play(self.bottom, [[0, 1], [0, 2, 3]], self.projected(Fixed([0, 0])))
        self.assertEqual(caught.exception.node, 0)

    def test_an_error_of_the_policy_leaves_the_projected_policy_as_it_was(self):
        class Failing:
            def __init__(self, policy):
                self.policy = policy
                self.fails = False

            def pick(self, standing, *, shown=None):
                if self.fails:
                    raise NotStanding(5)
                return self.policy.pick(standing, shown=shown)

        runs = [[0, 1, 2, 1, 2, 3], [0, 2, 1, 2, 1, 2, 3], [0, 2, 3]]
        row = [0, 0, 1, 1, 0, 1, 0, 2, 1, 0, 1, 1]
        calm = play(self.bottom, runs, self.projected(ByRow(row)))
        for place in range(len(calm)):
            failing = Failing(ByRow(row))
            policy = self.projected(failing)
            machine = Machine(self.bottom, runs)
            while not machine.over:
                if len(machine.schedule()) == place:
                    failing.fails = True
                    for _ in range(2):
                        with self.assertRaises(NotStanding):
                            policy.pick(machine.standing())
                    failing.fails = False
                machine.beat(policy.pick(machine.standing()))
            self.assertEqual(machine.schedule(), calm)

    def test_what_is_passed_may_be_changed(self):
        mapping = list(BELOW)
        policy = Projected(self.top, self.bottom, mapping, LeastNode())
        mapping.clear()
        standing = [0, 0]
        self.assertEqual(policy.pick(standing), 0)
        standing[:] = [9, 9]
        self.assertEqual(policy.pick([1, 2]), 2)


class CheckCoverTest(unittest.TestCase):
    def test_a_joined_graph(self):
        top, bottom = Graph(JOINED), Graph(TWO_DOORS)
        runs, found = check_cover(top, bottom, BELOW)
        self.assertIsNone(check_team(bottom, runs))
        self.assertEqual([route_of(bottom, run) for run in runs], full_routes(bottom))
        self.assertEqual(found, extra(top, bottom, runs))
        self.assertGreaterEqual(found, 3)

    def test_the_graph_itself(self):
        for graph in tame_graphs(40, seed=29):
            runs, found = check_cover(graph, graph, list(range(graph.size)))
            self.assertEqual(found, 0)
            foe = RingAdversary(graph, full_routes(graph))
            self.assertEqual(runs, duel(foe, BehindGap(graph))[0])

    def test_random_covers(self):
        tame = 0
        for place, bottom in enumerate(tame_graphs(150, seed=30)):
            top, mapping = random_cover(bottom, 3, seed=place)
            if worth(top) is None:
                with self.assertRaises(WildProgram):
                    check_cover(top, bottom, mapping)
            else:
                tame += 1
                runs, found = check_cover(top, bottom, mapping)
                self.assertEqual(found, extra(top, bottom, runs))
                self.assertGreaterEqual(found, worth(bottom) - worth(top))
        self.assertGreater(tame, 50)

    def test_wild_programs(self):
        # The cover of WILD has its first wild component at node 2, the graph at node 1.
        top = Graph([("a", 1, (2,)), ("e", 5, (END,)), ("b", 2, (3, 4)), ("c", 3, (2,)),
                     ("d", 1, (2, 1))])
        mapping = [0, 4, 1, 2, 3]
        with self.assertRaises(WildProgram) as caught:
            check_cover(top, Graph(WILD), mapping)
        self.assertEqual(caught.exception.node, 2)

    def test_limits(self):
        ring = Ring([10 ** 9] * 120, list(range(60)))
        bottom = ring_graph(ring)
        top, mapping = join(bottom)
        runs, found = check_cover(top, bottom, mapping)
        self.assertEqual(found, 59 * 10 ** 9)
        self.assertEqual(len(runs), 60)


if __name__ == "__main__":
    unittest.main()
