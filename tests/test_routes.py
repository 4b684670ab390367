"""Points 43 to 46: routes."""

import unittest

from foreworth.components import components, kinds
from foreworth.errors import WildProgram
from foreworth.graph import END, Graph
from foreworth.least import stretches
from foreworth.rings import Ring, rings
from foreworth.routes import doors_met, full_routes, route_cost, route_of
from foreworth.runs import check_team
from foreworth.worth import worth
from tests.samples import (
    THREE_RINGS, TWO_DOORS, WILD, random_graphs, random_runs, ring_graph, ring_run, tame_graphs)
from tests.slow import all_paths


def slow_route(graph, run):
    """The route, by leaving out whole rounds from the ends of stretches."""
    found = []
    for component, nodes in stretches(graph, run):
        size = len(components(graph)[component])
        if kinds(graph)[component] == "ring":
            while len(nodes) > size:
                nodes = nodes[:-size]
        found += nodes
    return found


def least_path(graph, first, last, avoid):
    return min(all_paths(graph, first, last, avoid), key=lambda path: (len(path), path))


class RouteTest(unittest.TestCase):
    def test_rounds_are_left_out(self):
        ring = Ring([2, 3, 5, 1], [0, 2, 3])
        graph = ring_graph(ring)
        # Less than one round, just one round, and more.
        for length, kept in ((1, 1), (3, 3), (4, 4), (5, 1), (7, 3), (8, 4), (9, 1), (4000, 4)):
            for door in ring.doors:
                run = ring_run(ring, door, length)
                self.assertEqual(route_of(graph, run), ring_run(ring, door, kept))

    def test_a_ring_of_one_node(self):
        graph = Graph([("a", 5, (0, 1)), ("b", 1, (1, END))])
        self.assertEqual(route_of(graph, [0, 0, 0, 1, 1]), [0, 1])
        self.assertEqual(route_of(graph, [0, 1]), [0, 1])

    def test_several_rings(self):
        graph = Graph(THREE_RINGS)
        self.assertEqual(route_of(graph, [0, 1, 0, 1, 0, 2, 3, 4, 2, 3, 4, 2, 5, 6, 6, 6]),
                         [0, 2, 5, 6])
        self.assertEqual(route_of(graph, [0, 1, 0, 1, 4, 2, 3, 4, 2, 5]), [0, 1, 4, 2, 5])

    def test_single_and_wild_components_stay(self):
        graph = Graph(WILD)
        run = [0] + [1, 2] * 5 + [1, 3, 1, 3, 4]
        self.assertEqual(route_of(graph, run), run)
        # A ring in front of the wild component.
        graph = Graph([("a", 1, (0, 1)), *WILD[1:]])
        self.assertEqual(route_of(graph, [0, 0, 0, 1, 3, 1, 3, 4]), [0, 1, 3, 1, 3, 4])

    def test_against_slow_routes(self):
        for graph in random_graphs(80):
            for run in random_runs(graph, 4):
                route = route_of(graph, run)
                self.assertEqual(route, slow_route(graph, run))
                self.assertEqual(route_of(graph, route), route)
                check_team(graph, [route])

    def test_lists_stay_and_are_new(self):
        graph = Graph(TWO_DOORS)
        run = [0, 1, 2, 3]
        runs = [run]
        route_of(graph, run).clear()
        doors_met(graph, runs)[0].append(5)
        route_cost(graph, runs)
        self.assertEqual(runs, [[0, 1, 2, 3]])
        self.assertEqual(route_of(graph, run), [0, 1, 2, 3])
        self.assertEqual(doors_met(graph, runs), [[0]])
        full_routes(graph)[0].clear()
        full_routes(graph).clear()
        self.assertEqual(full_routes(graph), [[0, 1], [0, 2, 1]])


class DoorsMetTest(unittest.TestCase):
    def test_positions_in_order_and_once(self):
        ring = Ring([2, 3, 5, 1], [0, 2, 3])
        graph = ring_graph(ring)
        runs = [ring_run(ring, door, 3) for door in (3, 0, 3, 0)]
        self.assertEqual(doors_met(graph, runs), [[0, 3]])
        self.assertEqual(doors_met(graph, runs[::2]), [[3]])

    def test_rings_to_which_no_run_comes(self):
        graph = Graph(THREE_RINGS)
        self.assertEqual(doors_met(graph, []), [[], [], []])
        self.assertEqual(doors_met(graph, [[0, 1, 5]]), [[0], [], []])
        self.assertEqual(doors_met(graph, [[0, 1, 5, 6], [0, 1, 4, 5], [0, 1, 3, 4, 5]]),
                         [[0], [1, 2], [0]])

    def test_positions_are_no_nodes(self):
        graph = Graph([("a", 1, (3,)), ("b", 2, (2, END)), ("c", 3, (4,)), ("d", 4, (1,)),
                       ("e", 5, (3, 3))])
        self.assertEqual(doors_met(graph, [[0, 3, 1]]), [[3]])

    def test_wild_components_are_passed_over(self):
        graph = Graph([("a", 1, (0, 1)), *WILD[1:4], ("e", 5, (4, END))])
        self.assertEqual(doors_met(graph, [[0, 0, 1, 3, 4, 4]]), [[0], [0]])
        self.assertEqual(doors_met(Graph(WILD), [[0, 1, 3, 4]]), [])


class RouteCostTest(unittest.TestCase):
    def test_costs_add_up(self):
        graph = Graph(THREE_RINGS)
        self.assertEqual(route_cost(graph, []), 0)
        self.assertEqual(route_cost(graph, [[0, 1, 3, 4, 5]] * 3), 0)
        # Doors 1 and 2 of prices 4, 1, 6: the gaps are 1 and 10.
        self.assertEqual(route_cost(graph, [[0, 1, 4, 5], [0, 1, 3, 4, 5, 6]]), 1)
        self.assertEqual(route_cost(graph, [[0, 1, 4, 5], [0, 2, 5]]), 5)
        rows = [("a", 1, (1, 2)), ("b", 4, (2, 3)), ("c", 3, (1, 4)), ("d", 5, (4, END)),
                ("e", 7, (3, END))]
        self.assertEqual(route_cost(Graph(rows), [[0, 1, 2, 4], [0, 2, 1, 3]]), 8)
        self.assertEqual(route_cost(Graph(rows), [[0, 1, 2, 4], [0, 2, 4]]), 3)
        self.assertEqual(route_cost(Graph(rows), [[0, 1, 2, 4], [0, 1, 3]]), 5)

    def test_runs_cost_what_their_routes_cost(self):
        for graph in tame_graphs(60):
            runs = random_runs(graph, 4)
            found = zip(rings(graph), doors_met(graph, runs))
            cost = sum(ring.cost(doors=tuple(doors)) for ring, doors in found if doors)
            self.assertEqual(route_cost(graph, runs), cost)
            self.assertEqual(route_cost(graph, [route_of(graph, run) for run in runs]), cost)
            self.assertLessEqual(cost, worth(graph))

    def test_wild_program(self):
        # The first wild component has the nodes 2 and 3, the second one 1 and 4.
        graph = Graph([("a", 1, (3,)), ("b", 1, (4, END)), ("c", 1, (3, 1)), ("d", 1, (2, 3)),
                       ("e", 1, (1, 4))])
        self.assertEqual(kinds(graph), ["single", "wild", "wild"])
        for call in (lambda: route_cost(graph, []), lambda: route_cost(graph, [[0, 3, 2, 1]]),
                     lambda: full_routes(graph)):
            with self.assertRaises(WildProgram) as caught:
                call()
            self.assertEqual(caught.exception.node, 2)
        self.assertEqual(route_of(graph, [0, 3, 2, 1]), [0, 3, 2, 1])
        self.assertEqual(doors_met(graph, [[0, 3, 2, 1]]), [])


class FullRoutesTest(unittest.TestCase):
    def test_one_route_for_each_door(self):
        self.assertEqual(full_routes(Graph(TWO_DOORS)), [[0, 1], [0, 2, 1]])
        self.assertEqual(full_routes(Graph(THREE_RINGS)),
                         [[0, 2, 5], [0, 1, 3, 4, 5], [0, 1, 4, 5]])

    def test_no_ring_with_two_doors(self):
        self.assertEqual(full_routes(Graph([("a", 1, (END,))])), [[0]])
        graph = Graph([("a", 1, (2, 1)), ("b", 1, (1, 3)), ("c", 1, (3,)), ("d", 1, (3, END))])
        self.assertEqual(full_routes(graph), [[0, 1, 3]])

    def test_ties_between_shortest_paths(self):
        # Two ways from 0 to each of the doors 5 and 6, and two ways from 6 to END.
        graph = Graph([("a", 1, (2, 1)), ("b", 1, (6, 5)), ("c", 1, (5, 6)), ("d", 1, (END,)),
                       ("e", 1, (END,)), ("f", 1, (6,)), ("g", 1, (5, 4, 3))])
        self.assertEqual(full_routes(graph), [[0, 1, 5, 6, 3], [0, 1, 6, 3]])

    def test_the_ring_is_not_met_before_the_door(self):
        # The shortest path to node 2 goes by node 1, which is in the ring, too.
        graph = Graph([("a", 1, (1, 3)), ("b", 1, (2, END)), ("c", 1, (1,)), ("d", 1, (4,)),
                       ("e", 1, (2,))])
        self.assertEqual(full_routes(graph), [[0, 1], [0, 3, 4, 2, 1]])

    def test_two_rings(self):
        rows = [("a", 1, (1, 2)), ("b", 4, (2, 3)), ("c", 3, (1, 4)), ("d", 5, (4, END)),
                ("e", 7, (3,))]
        self.assertEqual(full_routes(Graph(rows)),
                         [[0, 1, 3], [0, 2, 1, 3], [0, 1, 3], [0, 2, 4, 3]])

    def test_against_all_paths(self):
        for graph in tame_graphs(80):
            expected = []
            for ring in rings(graph):
                for door in ring.doors if len(ring.doors) > 1 else ():
                    node = ring.nodes[door]
                    others = [other for other in ring.nodes if other != node]
                    expected.append(least_path(graph, 0, node, others)
                                    + least_path(graph, node, END, [])[1:])
            routes = full_routes(graph)
            self.assertEqual(routes, expected or [least_path(graph, 0, END, [])])
            check_team(graph, routes)
            self.assertEqual([route_of(graph, route) for route in routes], routes)
            self.assertEqual(route_cost(graph, routes), worth(graph))


if __name__ == "__main__":
    unittest.main()
