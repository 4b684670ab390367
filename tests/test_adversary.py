"""Points 65 to 67: the ring adversary."""

import unittest
from random import Random

from foreworth.adversary import RingAdversary
from foreworth.components import components
from foreworth.errors import BadNode, NotOver, NotStanding, WildProgram
from foreworth.graph import END, Graph
from foreworth.least import loss, stretches
from foreworth.rings import Ring
from foreworth.routes import full_routes, route_cost, route_of
from foreworth.runs import check_team, price_of
from foreworth.worth import worth
from tests.foes import SlowRings
from tests.playing import beat_by_chance, random_beats
from tests.samples import (
    THREE_RINGS, TWO_DOORS, WILD, random_runs, ring_graph, ring_run, tame_graphs)

# The ring of nodes 1 and 2 has the cost 3.
ROUTES = [[0, 1, 2, 3], [0, 2, 3]]
# Three doors at nodes 1, 2 and 4; the price is 10 and the greatest gap 4, so the cost is 6.
THREE_DOORS = Ring([2, 1, 3, 4], [0, 1, 3])


def told(adversary):
    """All that an adversary tells without an error."""
    return (adversary.bill, adversary.sight, adversary.over, adversary.standing(),
            adversary.shown(), adversary.schedule())


def teams(graph, place):
    """Some teams of routes for a graph: its full routes, and other ones."""
    found = [full_routes(graph), random_runs(graph, 3, seed=place),
             random_runs(graph, 6, seed=place + 50)]
    return [team for team in found if team]


class BeatTest(unittest.TestCase):
    def setUp(self):
        self.graph = Graph(TWO_DOORS)
        self.foe = RingAdversary(self.graph, ROUTES)

    def test_new_adversary(self):
        self.assertEqual(told(self.foe), (0, 0, False, [0, 0], [[], []], []))
        self.assertEqual(told(RingAdversary(self.graph, ROUTES, sight=1)),
                         (0, 1, False, [0, 0], [[1], [2]], []))

    def test_beats(self):
        self.assertEqual(self.foe.beat(0), [0, 1])
        self.assertEqual(told(self.foe), (1, 0, False, [1, 2], [[], []], [0]))
        # The price of node 1 reaches the goal: lane 1 has executed nothing, and stays.
        self.assertEqual(self.foe.beat(1), [0])
        self.assertEqual(told(self.foe), (5, 0, False, [2, 2], [[], []], [0, 1]))
        self.assertEqual(self.foe.beat(2), [0, 1])
        self.assertEqual(self.foe.standing(), [3, 1])
        for node in (1, 2, 1, 2, 3):
            self.assertIs(self.foe.over, False)
            with self.assertRaises(NotOver):
                self.foe.runs()
            self.foe.beat(node)
        self.assertEqual(told(self.foe),
                         (24, 0, True, [END, END], [[], []], [0, 1, 2, 1, 2, 1, 2, 3]))
        self.assertEqual(self.foe.runs(), [[0, 1, 2, 3], [0, 2, 1, 2, 1, 2, 3]])
        self.assertEqual(loss(self.graph, self.foe.runs(), self.foe.schedule()), 4)

    def test_listed_lanes(self):
        foe = RingAdversary(self.graph, [*ROUTES, *ROUTES])
        self.assertEqual(foe.beat(0, lanes=[3, 1, 3]), [1, 3])
        self.assertEqual(foe.standing(), [0, 2, 0, 2])
        self.assertEqual(foe.beat(0, lanes=[0]), [0])
        self.assertEqual(foe.beat(0), [2])
        self.assertEqual(foe.standing(), [1, 2, 1, 2])
        self.assertEqual((foe.bill, foe.schedule()), (3, [0, 0, 0]))

    def test_wrong_beats(self):
        self.foe.beat(0)
        before = told(self.foe)
        for node in (END, -2, 4, 5, 1000):
            for lanes in (None, [], [0], [7]):
                with self.assertRaises(BadNode) as caught:
                    self.foe.beat(node, lanes=lanes)
                self.assertEqual(caught.exception.node, node)
        wrong = [(0, None), (3, None), (1, []), (1, [1]), (1, [0, 1]), (1, [0, 2]), (1, [-1]),
                 (1, [-2]), (2, [0]), (3, []), (3, [0])]
        for node, lanes in wrong:
            with self.assertRaises(NotStanding) as caught:
                self.foe.beat(node, lanes=lanes)
            self.assertEqual(caught.exception.node, node)
        self.assertEqual(told(self.foe), before)
        self.assertEqual(self.foe.beat(1), [0])

    def test_lanes_that_have_ended_do_not_stand(self):
        for node in (0, 1, 2, 3, 1, 2, 1, 2):
            self.foe.beat(node)
        self.assertEqual(self.foe.standing(), [END, 3])
        with self.assertRaises(NotStanding):
            self.foe.beat(3, lanes=[0, 1])
        with self.assertRaises(BadNode):
            self.foe.beat(END, lanes=[0])
        self.assertEqual(self.foe.beat(3), [1])
        with self.assertRaises(NotStanding):
            self.foe.beat(3)
        self.assertIs(self.foe.over, True)

    def test_wild_programs(self):
        with self.assertRaises(WildProgram) as caught:
            RingAdversary(Graph(WILD), [[0, 1, 3, 4]])
        self.assertEqual(caught.exception.node, 1)


class RingTest(unittest.TestCase):
    def runs_of(self, graph, routes):
        foe = RingAdversary(graph, routes)
        random_beats(foe, Random(1))
        return foe.runs()

    def test_a_goal_of_0_closes_at_once(self):
        # Lane 0 holds the ring of nodes 0 and 1, and the one of node 6, both with one door.
        # In the first one it stays for a round more than the others.
        routes = [[0, 1, 5, 6], [0, 1, 5], [0, 1, 5]]
        foe = RingAdversary(Graph(THREE_RINGS), routes, sight=6)
        self.assertEqual(foe.shown(), [[1, 0, 1, 5, 6], [1, 5], [1, 5]])
        random_beats(foe, Random(2))
        self.assertEqual(foe.runs(), [[0, 1, 0, 1, 5, 6], [0, 1, 5], [0, 1, 5]])

    def test_the_lane_that_stays_alone(self):
        self.assertEqual(self.runs_of(Graph(THREE_RINGS), [[0, 1, 5, 6]]), [[0, 1, 5, 6]])
        ring = Ring([1, 2, 3], [1])
        for length, stay in ((1, 4), (2, 5), (3, 3)):
            self.assertEqual(self.runs_of(ring_graph(ring), [ring_run(ring, 1, length)]),
                             [ring_run(ring, 1, stay)])

    def test_the_lane_that_stays_among_others_at_its_door(self):
        ring = Ring([1, 2, 3], [1])
        routes = [ring_run(ring, 1, length) for length in (2, 1, 3)]
        runs = [ring_run(ring, 1, length) for length in (8, 1, 3)]
        self.assertEqual(self.runs_of(ring_graph(ring), routes), runs)

    def test_the_runs_that_are_passed_count_by_their_routes(self):
        ring = Ring([1, 2, 3], [1])
        routes = [ring_run(ring, 1, length) for length in (11, 7, 30)]
        runs = [ring_run(ring, 1, length) for length in (8, 1, 3)]
        self.assertEqual(self.runs_of(ring_graph(ring), routes), runs)

    def test_holders_go_round_until_the_goal_is_reached(self):
        # The goal is 6. Lanes 0, 1 and 2 hold the doors at nodes 1, 2 and 4.
        graph = ring_graph(THREE_DOORS)
        routes = [ring_run(THREE_DOORS, door, length) for door, length in ((0, 1), (1, 2), (3, 3))]
        foe = RingAdversary(graph, routes)
        for node, standing in ((0, [1, 5, 5]), (5, [1, 2, 6]), (6, [1, 2, 4]), (1, [2, 2, 4]),
                               (2, [3, 3, 4])):
            foe.beat(node)
            self.assertEqual(foe.standing(), standing)
        # Lane 2 has executed nothing; with node 3 the bill there is 6. Lane 0 is decided
        # for 3 nodes and leaves behind 5 of them, lane 1 behind 2, and lane 2 stays.
        foe.beat(3)
        self.assertEqual(foe.standing(), [4, END, 4])
        random_beats(foe, Random(3))
        runs = [ring_run(THREE_DOORS, door, stay) for door, stay in ((0, 5), (1, 2), (3, 11))]
        self.assertEqual(foe.runs(), runs)

    def test_ties_of_the_least_price(self):
        # Lanes 0, 1 and 2 hold the doors at nodes 4, 1 and 2. Lane 0 alone moves there:
        # lanes 1 and 2 have executed nothing, so lane 1 stays.
        routes = [ring_run(THREE_DOORS, door, 1) for door in (3, 0, 1)]
        foe = RingAdversary(ring_graph(THREE_DOORS), routes)
        for node in (0, 5, 6, 4):
            foe.beat(node)
        self.assertEqual(foe.standing(), [1, 1, 2])
        foe.beat(1, lanes=[0])
        # The bill there is 6: lane 0 was decided for 2 nodes, and leaves behind 5.
        self.assertEqual(foe.standing(), [2, 1, 2])
        random_beats(foe, Random(4))
        runs = [ring_run(THREE_DOORS, door, stay) for door, stay in ((3, 5), (0, 9), (1, 1))]
        self.assertEqual(foe.runs(), runs)

    def test_the_least_price_of_lanes_that_have_moved(self):
        routes = [ring_run(THREE_DOORS, door, 1) for door in (3, 0, 1)]
        foe = RingAdversary(ring_graph(THREE_DOORS), routes)
        for node in (0, 5, 6, 1, 2):
            foe.beat(node)
        # The bill there is 3, of which lane 0 has paid nothing, lane 1 all and lane 2 1.
        self.assertEqual(foe.standing(), [4, 3, 3])
        foe.beat(4)
        # Now the bill is 7: lane 2 stays, lane 0 was decided for 1 node and lane 1 for 3.
        self.assertEqual(foe.standing(), [END, 3, 3])
        random_beats(foe, Random(5))
        runs = [ring_run(THREE_DOORS, door, stay) for door, stay in ((3, 1), (0, 5), (1, 9))]
        self.assertEqual(foe.runs(), runs)

    def test_only_the_first_lane_at_a_door_holds_it(self):
        graph = Graph(TWO_DOORS)
        routes = [[0, 2, 3], [0, 2, 1, 2, 3], [0, 1, 2, 3], [0, 1]]
        foe = RingAdversary(graph, routes, sight=5)
        self.assertEqual(foe.shown(), [[2, 1, 2, 1, 2], [2, 3], [1, 2, 1, 2, 1], [1]])
        random_beats(foe, Random(5))
        self.assertEqual([run for lane, run in enumerate(foe.runs()) if lane in (1, 3)],
                         [[0, 2, 3], [0, 1]])

    def test_sights_on_the_way_to_a_ring(self):
        # Nodes 0, 4 and 5 lead to the doors; the holders are shown a part of the ring.
        graph = ring_graph(THREE_DOORS)
        routes = [ring_run(THREE_DOORS, door, 1) for door in (0, 1, 3)]
        ways = [[1, 2, 3, 4, 1, 2], [5, 2, 3, 4, 1, 2], [5, 6, 4, 1, 2, 3]]
        for sight in range(7):
            foe = RingAdversary(graph, routes, sight=sight)
            self.assertEqual(foe.shown(), [way[:sight] for way in ways])
            # Lane 0 goes round alone up to 6; it was decided for 3 + sight nodes then.
            # Lane 1 was decided for sight - 1 nodes, and lane 2 for sight - 2 nodes.
            for node in (0, 1, 2, 3):
                foe.beat(node, lanes=[0])
            first = 1
            while first < 3 + sight:
                first += 4
            third = 1
            while third < sight - 2:
                third += 4
            second = 1
            while second < 4 + max(first, third):
                second += 4
            random_beats(foe, Random(sight))
            self.assertEqual(foe.runs(), [ring_run(THREE_DOORS, door, stay) for door, stay
                                          in ((0, first), (1, second), (3, third))], sight)

    def test_a_ring_that_is_open_hides_what_is_behind_it(self):
        rows = [("a", 1, (1, 2)), ("b", 1, (2,)), ("c", 1, (1, 3, 4)), ("d", 5, (4, END)),
                ("e", 7, (3,))]
        graph = Graph(rows)
        routes = [[0, 1, 2, 3], [0, 2, 4, 3]]
        foe = RingAdversary(graph, routes, sight=4)
        self.assertEqual(foe.shown(), [[1, 2, 1, 2], [2, 1, 2, 1]])
        foe.beat(0)
        foe.beat(1)
        # Lane 0 was decided for 5 nodes, so it leaves behind 6; lane 1 stays for 8 + 1.
        self.assertEqual(foe.shown(), [[1, 2, 1, 2], [1, 2, 1, 2]])
        for node in (2, 1, 2, 1):
            foe.beat(node)
        self.assertEqual(foe.shown(), [[3, 4, 3, 4], [1, 2, 1, 2]])


class RandomTest(unittest.TestCase):
    def test_the_same_as_the_slow_adversary(self):
        source = Random(6)
        for place, graph in enumerate(tame_graphs(120, most=9)):
            for routes in teams(graph, place):
                for sight in (0, 1, 2, 5):
                    foe = RingAdversary(graph, routes, sight=sight)
                    slow = SlowRings(graph, routes, sight=sight)
                    while not slow.over:
                        self.assertEqual((foe.standing(), foe.shown(), foe.bill, foe.over),
                                         (slow.standing(), slow.shown(), slow.bill, False))
                        first, second = beat_by_chance([foe, slow], source)
                        self.assertEqual(first, second)
                    self.assertIs(foe.over, True)
                    self.assertEqual(foe.runs(), slow.runs())

    def test_what_was_shown_comes_true(self):
        source = Random(7)
        for place, graph in enumerate(tame_graphs(60, most=9, seed=8)):
            for sight in (1, 3, 50):
                routes = teams(graph, place)[0]
                foe = RingAdversary(graph, routes, sight=sight)
                seen = []
                done = [0] * len(routes)
                while not foe.over:
                    seen.append((list(done), foe.standing(), foe.shown()))
                    for lane in beat_by_chance([foe], source)[0]:
                        done[lane] += 1
                runs = foe.runs()
                for done, standing, shown in seen:
                    for lane, run in enumerate(runs):
                        rest = run[done[lane]:]
                        self.assertEqual((rest + [END])[0], standing[lane])
                        self.assertEqual(rest[1:sight + 1], shown[lane])

    def test_facts(self):
        source = Random(8)
        for place, graph in enumerate(tame_graphs(150, most=9, seed=9)):
            owner = {node: len(nodes) for nodes in components(graph) for node in nodes}
            for routes in teams(graph, place):
                for sight in (0, 2, 9):
                    foe = RingAdversary(graph, routes, sight=sight)
                    random_beats(foe, source, leaving=place % 2 == 0)
                    runs = foe.runs()
                    self.assertIsNone(check_team(graph, runs))
                    self.assertEqual([route_of(graph, run) for run in runs],
                                     [route_of(graph, run) for run in routes])
                    self.assertEqual(foe.bill, price_of(graph, foe.schedule()))
                    self.assertGreaterEqual(loss(graph, runs, foe.schedule()),
                                            route_cost(graph, routes))
                    self.assertLessEqual(len(foe.schedule()), sum(map(len, runs)))
                    for run in runs:
                        for _, nodes in stretches(graph, run):
                            self.assertLessEqual(len(nodes), 4 * owner[nodes[0]] + sight)

    def test_full_routes_cost_the_worth(self):
        for graph in tame_graphs(40, seed=10):
            foe = RingAdversary(graph, full_routes(graph))
            random_beats(foe, Random(9))
            self.assertGreaterEqual(loss(graph, foe.runs(), foe.schedule()), worth(graph))

    def test_questions_change_nothing(self):
        for place, graph in enumerate(tame_graphs(30, seed=11)):
            for routes in teams(graph, place):
                asked = RingAdversary(graph, routes, sight=2)
                quiet = RingAdversary(graph, routes, sight=2)
                source = Random(place)
                while not quiet.over:
                    self.assertEqual(told(asked), told(asked))
                    if not asked.over:
                        with self.assertRaises(NotOver):
                            asked.runs()
                    with self.assertRaises(BadNode):
                        asked.beat(graph.size)
                    beat_by_chance([quiet, asked], source)
                self.assertEqual(asked.runs(), asked.runs())
                self.assertEqual(asked.runs(), quiet.runs())

    def test_what_is_passed_and_returned_may_be_changed(self):
        graph = Graph(TWO_DOORS)
        routes = [list(run) for run in ROUTES]
        foe = RingAdversary(graph, routes, sight=3)
        other = RingAdversary(graph, ROUTES, sight=3)
        self.assertEqual(routes, ROUTES)
        for run in routes:
            run.clear()
        routes.clear()
        lanes = [1, 0, 1]
        moved = foe.beat(0, lanes=lanes)
        self.assertEqual(lanes, [1, 0, 1])
        other.beat(0)
        lanes.clear()
        moved.clear()
        while not other.over:
            for found in (foe.standing(), foe.schedule(), foe.shown()):
                found[:] = [[5]]
            for ahead in foe.shown():
                ahead.append(9)
            self.assertEqual(told(foe), told(other))
            node = min(node for node in other.standing() if node != END)
            foe.beat(node).append(3)
            other.beat(node)
        foe.runs()[0].clear()
        foe.runs().clear()
        self.assertEqual(foe.runs(), other.runs())

    def test_limits(self):
        ring = Ring([10 ** 9] * 120, list(range(60)))
        graph = ring_graph(ring)
        routes = [ring_run(ring, door, 4000 - ring.doors.index(door) - 1) for door in ring.doors]
        foe = RingAdversary(graph, routes, sight=50)
        while not foe.over:
            foe.beat(max(foe.standing()))
        self.assertGreaterEqual(loss(graph, foe.runs(), foe.schedule()), 59 * 10 ** 9)


if __name__ == "__main__":
    unittest.main()
