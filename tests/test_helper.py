"""Points 53 to 55: a helper."""

import unittest

from foreworth.errors import BadWord, WildProgram
from foreworth.graph import END, Graph
from foreworth.helper import word_count, word_doors, word_of, word_team
from foreworth.laying import least_laying
from foreworth.least import loss, stretches
from foreworth.rings import Ring, rings
from foreworth.rounds import RoundFrom
from foreworth.routes import doors_met, route_of
from foreworth.runs import check_team
from tests.playing import played
from tests.samples import (
    THREE_RINGS, TWO_DOORS, WILD, random_runs, ring_graph, ring_run, tame_graphs)

# Node 0 leads to two doors of the ring of nodes 1 and 2; both lead to a ring of nodes 3
# and 4 with two doors.
TWO_RINGS = [("a", 1, (1, 2)), ("b", 4, (2, 3)), ("c", 3, (1, 4)), ("d", 5, (4, END)),
             ("e", 7, (3, END))]


def slow_team(graph, routes, word):
    """Point 54, ring by ring."""
    routes = [route_of(graph, run) for run in routes]
    team = [stretches(graph, route) for route in routes]
    for ring, doors in zip(rings(graph), doors_met(graph, routes)):
        if not doors:
            continue
        door = ring.nodes[doors[word % len(doors)]]
        word //= len(doors)
        lengths = [len(nodes) for parts in team for _, nodes in parts if nodes[0] in ring.nodes]
        holder = min(lane for lane, parts in enumerate(team)
                     if any(nodes[0] == door for _, nodes in parts))
        for _, nodes in team[holder]:
            if nodes[0] == door:
                rest = len(nodes) % ring.size
                # Longer and longer, until both conditions hold.
                while len(nodes) < ring.size + max(lengths) or len(nodes) % ring.size != rest:
                    place = ring.nodes.index(nodes[-1])
                    nodes.append(ring.nodes[(place + 1) % ring.size])
    return [[node for _, nodes in parts for node in nodes] for parts in team]


class WordsTest(unittest.TestCase):
    def test_a_team_that_comes_to_no_ring(self):
        graph = Graph([("a", 1, (1, 2, END)), ("b", 4, (2, END)), ("c", 3, (1, END))])
        for runs in ([], [[0]], [[0], [0]]):
            self.assertEqual(word_count(graph, runs), 1)
            self.assertEqual(word_of(graph, runs), 0)
            self.assertEqual(word_doors(graph, runs, 0), [])
            self.assertEqual(word_team(graph, runs, 0), runs)
            for word in (-1, 1):
                for call in (word_doors, word_team):
                    with self.assertRaises(BadWord):
                        call(graph, runs, word)

    def test_count(self):
        graph = Graph(TWO_RINGS)
        self.assertEqual(word_count(graph, [[0, 1, 3]]), 1)
        self.assertEqual(word_count(graph, [[0, 1, 3], [0, 2, 4]]), 4)
        self.assertEqual(word_count(graph, [[0, 1, 2, 4], [0, 2, 4]]), 2)
        self.assertEqual(word_count(Graph(THREE_RINGS), [[0, 1, 4, 5], [0, 2, 5]]), 2)
        ring = Ring([1] * 60, list(range(60)))
        runs = [ring_run(ring, door, 1) for door in ring.doors]
        self.assertEqual(word_count(ring_graph(ring), runs), 60)

    def test_word(self):
        graph = Graph(TWO_DOORS)
        self.assertEqual(word_of(graph, [[0, 1], [0, 2, 1]]), 1)
        self.assertEqual(word_of(graph, [[0, 1, 2, 1, 2, 1], [0, 2, 3]]), 0)
        self.assertEqual(word_of(graph, [[0, 2, 1, 2, 1, 2, 3], [0, 1, 2, 3]]), 1)
        self.assertEqual(word_of(graph, [[0, 2, 1, 2, 1, 2, 3]]), 0)

    def test_digits(self):
        graph = Graph(TWO_RINGS)
        lanes = {(1, 3): [0, 1, 3], (1, 4): [0, 1, 2, 4], (2, 3): [0, 2, 1, 3], (2, 4): [0, 2, 4]}
        runs = [lanes[1, 3], lanes[2, 4]]
        told = [word_doors(graph, runs, word) for word in range(4)]
        self.assertEqual(told, [[1, 3], [2, 3], [1, 4], [2, 4]])
        # One lane that goes round in the ring at each of the two places.
        self.assertEqual(word_of(graph, [lanes[1, 3], [0, 2, 1, 2, 1, 2, 4]]), 1)
        self.assertEqual(word_of(graph, [lanes[1, 3], [0, 2, 4, 3, 4, 3, 4]]), 2)
        self.assertEqual(word_of(graph, [[0, 1, 2, 1, 2, 1, 3], [0, 2, 4, 3, 4, 3, 4]]), 2)
        self.assertEqual(word_of(graph, [[0, 1, 3, 4, 3, 4], [0, 2, 1, 2, 1, 2, 4]]), 1)

    def test_a_ring_that_is_not_met_has_no_digit(self):
        graph = Graph(THREE_RINGS)
        runs = [[0, 1, 5, 6], [0, 1, 4, 5], [0, 1, 3, 4, 5]]
        self.assertEqual(word_count(graph, runs), 2)
        self.assertEqual([word_doors(graph, runs, word) for word in (0, 1)], [[0, 3, 6], [0, 4, 6]])
        self.assertEqual(word_doors(graph, runs[1:], 1), [0, 4])
        self.assertEqual(word_doors(graph, runs[:1], 0), [0, 6])

    def test_bad_words(self):
        graph = Graph(TWO_RINGS)
        runs = [[0, 1, 3], [0, 2, 4]]
        for word in (-1, -2, 4, 5, 10 ** 9):
            for call in (word_doors, word_team):
                with self.assertRaises(BadWord):
                    call(graph, runs, word)
        word_doors(graph, runs, 3)
        word_team(graph, runs, 3)

    def test_wild_program_comes_first(self):
        graph = Graph(WILD)
        runs = [[0, 1, 3, 4]]
        for call in (lambda: word_count(graph, runs), lambda: word_of(graph, runs),
                     lambda: word_doors(graph, runs, 0), lambda: word_doors(graph, runs, -1),
                     lambda: word_team(graph, runs, 0), lambda: word_team(graph, runs, 7)):
            with self.assertRaises(WildProgram) as caught:
                call()
            self.assertEqual(caught.exception.node, 1)

    def test_lists_stay_and_are_new(self):
        graph = Graph(TWO_DOORS)
        runs = [[0, 1, 2, 3], [0, 2, 1, 2, 3]]
        word_count(graph, runs)
        word_of(graph, runs)
        word_doors(graph, runs, 1).clear()
        team = word_team(graph, runs, 1)
        kept = [list(run) for run in team]
        for run in team:
            run.clear()
        self.assertEqual(runs, [[0, 1, 2, 3], [0, 2, 1, 2, 3]])
        self.assertEqual(word_team(graph, runs, 1), kept)
        self.assertEqual(word_doors(graph, runs, 1), [2])


class WordTeamTest(unittest.TestCase):
    def test_the_holder_goes_round(self):
        graph = Graph(TWO_DOORS)
        runs = [[0, 1, 2, 3], [0, 2, 3]]
        # The greatest stretch has 2 nodes, so the holder has at least 4.
        self.assertEqual(word_team(graph, runs, 0), [[0, 1, 2, 1, 2, 3], [0, 2, 3]])
        self.assertEqual(word_team(graph, runs, 1), [[0, 1, 2, 3], [0, 2, 1, 2, 1, 2, 3]])

    def test_the_least_lane_holds(self):
        graph = Graph(TWO_DOORS)
        runs = [[0, 2, 1], [0, 1], [0, 2, 3], [0, 1, 2, 3]]
        self.assertEqual(word_team(graph, runs, 0),
                         [[0, 2, 1], [0, 1, 2, 1, 2, 1], [0, 2, 3], [0, 1, 2, 3]])
        self.assertEqual(word_team(graph, runs, 1),
                         [[0, 2, 1, 2, 1], [0, 1], [0, 2, 3], [0, 1, 2, 3]])

    def test_routes_of_the_runs_count(self):
        graph = Graph(TWO_DOORS)
        runs = [[0, 1] + [2, 1] * 20 + [2, 3], [0] + [2, 1] * 9 + [2, 3]]
        self.assertEqual(word_team(graph, runs, 0), [[0, 1, 2, 1, 2, 3], [0, 2, 3]])

    def test_one_holder_for_each_ring(self):
        graph = Graph(TWO_RINGS)
        runs = [[0, 1, 3], [0, 2, 4]]
        self.assertEqual(word_team(graph, runs, 1), [[0, 1, 3, 4, 3], [0, 2, 1, 2, 4]])
        self.assertEqual(word_team(graph, runs, 3), [[0, 1, 3], [0, 2, 1, 2, 4, 3, 4]])

    def test_a_ring_of_one_node(self):
        graph = Graph([("a", 5, (0, 1)), ("b", 1, (1, END))])
        self.assertEqual(word_team(graph, [[0, 1, 1, 1], [0, 0, 1]], 0), [[0, 0, 1, 1], [0, 1]])

    def check(self, graph, runs):
        routes = [route_of(graph, run) for run in runs]
        many = word_count(graph, runs)
        self.assertEqual(many, word_count(graph, routes))
        self.assertLess(word_of(graph, runs), many)
        for word in range(many):
            team = word_team(graph, runs, word)
            self.assertEqual(team, slow_team(graph, runs, word))
            check_team(graph, team)
            self.assertEqual([route_of(graph, run) for run in team], routes)
            self.assertEqual(word_of(graph, team), word)
            doors = word_doors(graph, runs, word)
            self.assertEqual(doors, least_doors(graph, team))
            # Point 55: the policy that is told the word loses nothing.
            schedule = played(graph, team, RoundFrom(graph, doors))
            self.assertEqual(loss(graph, team, schedule), 0)
        doors = word_doors(graph, runs, word_of(graph, runs))
        schedule = played(graph, runs, RoundFrom(graph, doors))
        self.assertEqual(loss(graph, runs, schedule), 0)

    def test_random_teams(self):
        most = 0
        for graph in tame_graphs(100):
            runs = random_runs(graph, 5)
            self.check(graph, runs)
            most = max(most, word_count(graph, runs))
        self.assertGreater(most, 2)

    def test_rings_with_many_doors(self):
        ring = Ring([2, 3, 5, 1, 4, 2], [0, 1, 3, 5])
        graph = ring_graph(ring)
        self.check(graph, [ring_run(ring, door, 3 * door % 5 + 1) for door in (3, 0, 5, 0, 1, 3)])
        self.check(graph, [ring_run(ring, door, 7) for door in (5, 3)])


def least_doors(graph, team):
    """The nodes of the doors of the least layings, for the rings met."""
    found = []
    for ring in rings(graph):
        stays = [(ring.nodes.index(nodes[0]), len(nodes)) for run in team
                 for _, nodes in stretches(graph, run) if nodes[0] in ring.nodes]
        if stays:
            found.append(ring.nodes[least_laying(ring, stays)[1]])
    return found


if __name__ == "__main__":
    unittest.main()
