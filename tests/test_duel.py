"""Point 70: duels."""

import unittest

from foreworth.adversary import RingAdversary
from foreworth.duel import duel
from foreworth.errors import BadNode, NotOver, NotStanding
from foreworth.graph import END, Graph
from foreworth.least import loss
from foreworth.plays import play
from foreworth.policies import ByRow, Fixed, LeastNode, MostLanes, Peek
from foreworth.rings import rings
from foreworth.rounds import BehindGap, BehindNow, RoundFrom
from foreworth.routes import full_routes, route_cost
from foreworth.runs import price_of
from foreworth.sweeps import Sweep
from foreworth.wildfoe import WildAdversary
from foreworth.worth import worth
from tests.playing import Listening
from tests.samples import TWO_DOORS, WILD, random_graphs, random_runs, tame_graphs

ROUTES = [[0, 1, 2, 3], [0, 2, 3]]


def told(adversary):
    """What an adversary tells."""
    return (adversary.bill, adversary.over, adversary.standing(), adversary.shown(),
            adversary.schedule())


class DuelTest(unittest.TestCase):
    def setUp(self):
        self.graph = Graph(TWO_DOORS)

    def test_runs_and_schedule(self):
        foe = RingAdversary(self.graph, ROUTES)
        found = duel(foe, LeastNode())
        self.assertEqual(found, ([[0, 1, 2, 3], [0, 2, 1, 2, 1, 2, 3]], [0, 1, 2, 1, 2, 1, 2, 3]))
        self.assertIsInstance(found, tuple)
        self.assertEqual(told(foe), (24, True, [END, END], [[], []], found[1]))
        self.assertEqual(foe.runs(), found[0])
        self.assertEqual(duel(WildAdversary(Graph(WILD), 3), LeastNode()),
                         ([[0, 1, 2, 1, 3, 4], [0, 1, 3, 1, 2, 1, 3, 4]],
                          [0, 1, 2, 1, 3, 1, 2, 1, 3, 4]))

    def test_what_the_policy_is_asked(self):
        policy = Listening(LeastNode())
        duel(RingAdversary(self.graph, ROUTES), policy)
        self.assertEqual(policy.asked[:3], [([0, 0], None), ([1, 2], None), ([2, 2], None)])
        self.assertEqual({shown for _, shown in policy.asked}, {None})
        self.assertEqual(len(policy.asked), 8)

    def test_sights(self):
        for sight in (1, 3):
            policy = Listening(LeastNode())
            duel(RingAdversary(self.graph, ROUTES, sight=sight), policy)
            ahead = [[1, 2, 1], [2, 1, 2]]
            self.assertEqual(policy.asked[0], ([0, 0], [nodes[:sight] for nodes in ahead]))
            # Behind the last node nothing is shown, but the lists are there.
            self.assertEqual(policy.asked[-1][1], [[], []])
            self.assertNotIn(None, [shown for _, shown in policy.asked])

    def test_lists_that_are_all_empty(self):
        policy = Listening(LeastNode())
        graph = Graph([("a", 1, (END,))])
        self.assertEqual(duel(RingAdversary(graph, [[0], [0]], sight=2), policy), ([[0], [0]], [0]))
        self.assertEqual(policy.asked, [([0, 0], [[], []])])

    def test_a_peeking_policy(self):
        # It sees node 2 ahead of lane 0, and takes it last.
        foe = RingAdversary(self.graph, ROUTES, sight=1)
        self.assertEqual(duel(foe, Peek())[1][:2], [0, 1])

    def test_numbers_that_are_no_nodes(self):
        for node in (END, -2, 4, 99):
            foe = RingAdversary(self.graph, ROUTES, sight=1)
            with self.assertRaises(BadNode) as caught:
                duel(foe, Fixed([0, 1, node]))
            self.assertEqual(caught.exception.node, node)
            # The adversary stands behind the last beat that was made.
            other = RingAdversary(self.graph, ROUTES, sight=1)
            other.beat(0)
            other.beat(1)
            self.assertEqual(told(foe), told(other))
            with self.assertRaises(NotOver):
                foe.runs()
            self.assertEqual(foe.beat(2), other.beat(2))
            self.assertEqual(told(foe), told(other))

    def test_nodes_at_which_no_lane_stands(self):
        for adversary in (RingAdversary(self.graph, ROUTES), WildAdversary(Graph(WILD), 4)):
            policy = Fixed([0, 0, 5, 6])
            with self.assertRaises(NotStanding) as caught:
                duel(adversary, policy)
            self.assertEqual(caught.exception.node, 0)
            self.assertEqual(adversary.schedule(), [0])
            # The policy stands as it was asked so far.
            self.assertEqual([policy.pick([1, 1]) for _ in range(3)], [5, 6, END])

    def test_duels_and_plays(self):
        # The play on the runs that came out is the same, where nothing is shown.
        for place, graph in enumerate(tame_graphs(40, seed=16)):
            routes = random_runs(graph, 3, seed=place) or full_routes(graph)
            row = [(place * index) % 7 for index in range(60)]
            order = list(range(graph.size))
            for first, second in ((LeastNode(), LeastNode()), (MostLanes(), MostLanes()),
                                  (ByRow(row), ByRow(row)),
                                  (BehindGap(graph), BehindGap(graph)),
                                  (BehindNow(graph), BehindNow(graph)),
                                  (Sweep(graph, order), Sweep(graph, order))):
                runs, schedule = duel(RingAdversary(graph, routes), first)
                self.assertEqual(play(graph, runs, second), schedule)
                self.assertGreaterEqual(loss(graph, runs, schedule), route_cost(graph, routes))

    def test_no_policy_loses_less(self):
        for place, graph in enumerate(tame_graphs(40, seed=18)):
            routes = full_routes(graph)
            told = [ring.nodes[place % ring.size] for ring in rings(graph)]
            for sight in (0, 1, 6):
                for policy in (Peek(), RoundFrom(graph, told), RoundFrom(graph, []),
                               Sweep(graph, list(range(graph.size))[::-1])):
                    runs, schedule = duel(RingAdversary(graph, routes, sight=sight), policy)
                    self.assertGreaterEqual(loss(graph, runs, schedule), worth(graph))

    def test_no_policy_loses_less_than_the_target(self):
        for place, graph in enumerate(random_graphs(150, seed=19)):
            if worth(graph) is None:
                for policy in (Peek(), LeastNode(), MostLanes(), ByRow([0, 1, 1] * 50),
                               Sweep(graph, list(range(graph.size)))):
                    foe = WildAdversary(graph, 1 + place, sight=place % 4)
                    runs, schedule = duel(foe, policy)
                    dearest = max(price_of(graph, run) for run in runs)
                    self.assertGreaterEqual(price_of(graph, schedule) - dearest, 1 + place)

    def test_the_best_policies_lose_just_the_worth(self):
        for graph in tame_graphs(60, seed=17):
            for policy in (BehindGap(graph), BehindNow(graph)):
                runs, schedule = duel(RingAdversary(graph, full_routes(graph), sight=2), policy)
                self.assertEqual(loss(graph, runs, schedule), worth(graph))

    def test_what_is_returned_may_be_changed(self):
        foe = RingAdversary(self.graph, ROUTES)
        runs, schedule = duel(foe, LeastNode())
        runs[0].clear()
        schedule.clear()
        self.assertEqual(foe.runs()[0], [0, 1, 2, 3])
        self.assertEqual(foe.schedule(), [0, 1, 2, 1, 2, 1, 2, 3])

    def test_a_policy_that_spoils_what_it_is_shown(self):
        policy = Listening(LeastNode())
        self.assertEqual(duel(RingAdversary(self.graph, ROUTES, sight=2), policy),
                         duel(RingAdversary(self.graph, ROUTES, sight=2), LeastNode()))


if __name__ == "__main__":
    unittest.main()
