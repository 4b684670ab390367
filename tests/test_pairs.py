"""Points 50 to 52: two lanes."""

import unittest
from itertools import product

from foreworth.components import component_of, components, exits, kinds
from foreworth.errors import TooLarge, WildProgram
from foreworth.graph import END, Graph
from foreworth.pairs import check_pair_heights, pair_heights, pair_routes, pair_worth
from foreworth.rings import rings
from foreworth.routes import route_cost, route_of
from foreworth.runs import check_team
from tests.samples import THREE_RINGS, TWO_DOORS, WILD, random_graphs, tame_graphs

CALLS = (pair_worth, pair_heights, pair_routes, lambda graph: check_pair_heights(graph, {}, 0))


def slow_pairs(graph):
    """A dict from each pair to the list of the pairs that follow from it."""
    index = component_of(graph) + [len(components(graph))]
    leaving = [exits(graph, nodes) for nodes in components(graph)]
    found = {}
    ahead = [(0, 0)]
    while ahead:
        pair = ahead.pop()
        u, v = pair
        if pair in found:
            continue
        found[pair] = []
        if u != END and v != END and index[u] == index[v]:
            found[pair] += [(x, y) for x in leaving[index[u]] for y in leaving[index[v]]]
        elif u != END and (v == END or index[u] < index[v]):
            found[pair] += [(x, v) for x in leaving[index[u]]]
        elif v != END:
            found[pair] += [(u, y) for y in leaving[index[v]]]
        ahead += found[pair]
    return found


def slow_gain(graph, pair):
    for ring in rings(graph):
        if pair[0] in ring.nodes and pair[1] in ring.nodes and pair[0] != pair[1]:
            return ring.cost(doors=tuple(sorted(ring.nodes.index(node) for node in pair)))
    return 0


def slow_check(graph, heights, claim):
    """Point 51, condition by condition."""
    pairs = slow_pairs(graph)
    if any(pair not in heights for pair in pairs):
        return False
    for pair, behind in pairs.items():
        if pair == (END, END) and heights[pair] < 0:
            return False
        if any(heights[pair] < slow_gain(graph, pair) + heights[other] for other in behind):
            return False
    return heights[(0, 0)] <= claim


def all_routes(graph):
    """All routes of a graph without wild components."""
    found = []
    ahead = [[0]]
    while ahead:
        path = ahead.pop()
        if END in graph.successors(path[-1]):
            found.append(path)
        for target in set(graph.successors(path[-1])) - {END, *path}:
            ahead.append([*path, target])
    return found


class PairsTest(unittest.TestCase):
    def test_pairs_and_heights(self):
        heights = {(0, 0): 3, (1, 1): 0, (1, 2): 3, (2, 1): 3, (2, 2): 0, (3, 3): 0, (3, END): 0,
                   (END, 3): 0, (END, END): 0}
        self.assertEqual(pair_heights(Graph(TWO_DOORS)), heights)
        self.assertEqual(pair_worth(Graph(TWO_DOORS)), 3)

    def test_end_in_pairs(self):
        # Node 1 comes before node 2, and both before END.
        graph = Graph([("a", 1, (1, 2, END)), ("b", 1, (2,)), ("c", 1, (END,))])
        self.assertEqual(sorted(pair_heights(graph)), sorted(
            [(0, 0), *product([END, 1, 2], repeat=2)]))
        self.assertEqual(pair_heights(Graph([("a", 1, (END,))])), {(0, 0): 0, (END, END): 0})

    def test_one_lane_waits_for_the_other(self):
        # Node 3 is behind node 1: a lane that comes to 3 waits until the other one is no
        # longer in front of it, so (2, 3) is a pair, but (2, END) with a lane behind 3 is not.
        graph = Graph([("a", 1, (1, 3)), ("b", 1, (2,)), ("c", 1, (3,)), ("d", 1, (END,))])
        self.assertEqual(set(pair_heights(graph)),
                         {(0, 0), (1, 1), (1, 3), (3, 1), (3, 3), (2, 2), (2, 3), (3, 2),
                          (END, END)})

    def test_gains_in_one_ring(self):
        # The gaps behind the doors of nodes 1 and 3 are 5 and 10.
        graph = Graph([("a", 1, (1, 3)), ("b", 2, (2, END)), ("c", 3, (3,)), ("d", 5, (4,)),
                       ("e", 1, (5,)), ("f", 4, (1,))])
        heights = pair_heights(graph)
        self.assertEqual((heights[(1, 3)], heights[(3, 1)], heights[(1, 1)]), (5, 5, 0))
        self.assertEqual(heights[(0, 0)], 5)

    def test_several_rings(self):
        self.assertEqual(pair_worth(Graph(THREE_RINGS)), 5)
        rows = [("a", 1, (1, 2)), ("b", 4, (2, 3)), ("c", 3, (1, 4)), ("d", 5, (4, END)),
                ("e", 7, (3,))]
        self.assertEqual(pair_worth(Graph(rows)), 8)
        # A ring with two doors that only one and the same way leads to.
        rows = [("a", 1, (1, 2)), ("b", 4, (2, END)), ("c", 3, (1, 3)), ("d", 5, (4,)),
                ("e", 7, (4, END))]
        self.assertEqual(pair_worth(Graph(rows)), 3)

    def test_no_ring(self):
        self.assertEqual(pair_worth(Graph([("a", 1, (END,))])), 0)
        self.assertEqual(pair_routes(Graph([("a", 1, (END,))])), ([0], [0]))

    def test_too_large(self):
        for rows in ([("a", 1, (node + 1,)) for node in range(60)] + [("a", 1, (END,))],
                     [("a", 1, (node + 1, node, 0)) for node in range(60)] + [("a", 1, (END,))]):
            for call in CALLS:
                with self.assertRaises(TooLarge):
                    call(Graph(rows))
        graph = Graph([("a", 1, (node + 1,)) for node in range(59)] + [("a", 1, (END,))])
        self.assertEqual(pair_worth(graph), 0)
        self.assertEqual(len(pair_heights(graph)), 61)

    def test_wild(self):
        self.assertIsNone(pair_worth(Graph(WILD)))
        for call in CALLS[1:]:
            with self.assertRaises(WildProgram) as caught:
                call(Graph(WILD))
            self.assertEqual(caught.exception.node, 1)
        graph = Graph([("a", 1, (node + 1, node, 0)) for node in range(59)] + [("a", 1, (END,))])
        self.assertIsNone(pair_worth(graph))

    def test_against_all_routes(self):
        for graph in tame_graphs(60, most=6):
            value = pair_worth(graph)
            routes = all_routes(graph)
            best = max(route_cost(graph, [one, other]) for one in routes for other in routes)
            self.assertEqual(value, best)
            self.check_routes(graph, value)

    def check_routes(self, graph, value):
        routes = pair_routes(graph)
        self.assertIsInstance(routes, tuple)
        self.assertEqual(len(routes), 2)
        check_team(graph, list(routes))
        self.assertEqual([route_of(graph, route) for route in routes], list(routes))
        self.assertEqual(route_cost(graph, list(routes)), value)

    def test_against_slow_pairs(self):
        for graph in random_graphs(150):
            if "wild" not in kinds(graph):
                pairs = slow_pairs(graph)
                heights = pair_heights(graph)
                self.assertEqual(set(heights), set(pairs))
                for pair, behind in pairs.items():
                    rest = max((heights[other] for other in behind), default=0)
                    self.assertEqual(heights[pair], slow_gain(graph, pair) + rest)
                self.assertEqual(heights[(0, 0)], pair_worth(graph))
                self.assertIs(check_pair_heights(graph, heights, heights[(0, 0)]), True)
                self.assertIs(check_pair_heights(graph, heights, heights[(0, 0)] - 1), False)
                self.check_routes(graph, heights[(0, 0)])

    def test_large_graphs(self):
        # A chain of feeders, each of which leads to a door of a ring and to the next one.
        rows = [("a", 1, (node + 1, 30 + node)) for node in range(29)] + [("a", 1, (59,))]
        rows += [("r", node + 1, (30 + (node + 1) % 30, END)) for node in range(30)]
        graph = Graph(rows)
        ring = rings(graph)[0]
        best = max(ring.cost(doors=(one, other)) for one in range(30) for other in range(one + 1, 30))
        self.assertEqual(pair_worth(graph), best)
        self.check_routes(graph, best)

    def test_lists_are_new(self):
        graph = Graph(TWO_DOORS)
        pair_routes(graph)[0].clear()
        pair_heights(graph).clear()
        heights = pair_heights(graph)
        kept = dict(heights)
        check_pair_heights(graph, heights, 3)
        self.assertEqual(heights, kept)
        self.check_routes(graph, 3)
        self.assertEqual(pair_heights(graph), kept)


class CheckPairHeightsTest(unittest.TestCase):
    def setUp(self):
        self.graph = Graph(TWO_DOORS)
        self.heights = pair_heights(self.graph)

    def check(self, changes, claim=3):
        return check_pair_heights(self.graph, {**self.heights, **changes}, claim)

    def test_claim(self):
        self.assertIs(self.check({}), True)
        self.assertIs(self.check({}, 4), True)
        self.assertIs(self.check({}, 2), False)
        self.assertIs(self.check({(0, 0): 4}), False)
        self.assertIs(self.check({(0, 0): 4}, 4), True)

    def test_each_pair_is_a_key(self):
        for pair in self.heights:
            heights = {key: self.heights[key] for key in self.heights if key != pair}
            self.assertIs(check_pair_heights(self.graph, heights, 99), False, pair)
        self.assertIs(check_pair_heights(self.graph, {}, 99), False)

    def test_ends(self):
        self.assertIs(self.check({(END, END): -1}), False)
        higher = {pair: self.heights[pair] + 2 for pair in self.heights}
        self.assertIs(self.check(higher, 5), True)
        self.assertIs(self.check(higher, 4), False)

    def test_no_pair_is_too_low(self):
        self.assertIs(self.check({(1, 2): 2}), False)
        self.assertIs(self.check({(2, 1): 2}), False)
        self.assertIs(self.check({(1, 1): -1}), False)
        self.assertIs(self.check({(0, 0): 2}), False)
        self.assertIs(self.check({(3, 3): -1}), False)
        self.assertIs(self.check({(3, END): -1}), False)
        self.assertIs(self.check({(END, 3): -1}), False)
        # High enough for the best pair behind it, but not for each of them.
        self.assertIs(self.check({(3, END): 1}), False)
        self.assertIs(self.check({(1, 1): 1, (2, 2): 1}), True)
        self.assertIs(self.check({(1, 1): 4}), False)

    def test_other_keys_do_not_matter(self):
        others = {(0, 1): -9, (0,): -5, (): -7, (-2, 0): -9, (9, 9): -1, 4: -1, (END, 0): -8}
        self.assertIs(self.check(others), True)
        self.assertIs(self.check({**others, (3, 3): -1}), False)

    def test_against_slow_checks(self):
        told = {True: 0, False: 0}
        for graph in tame_graphs(80):
            heights = pair_heights(graph)
            value = heights[(0, 0)]
            for pair in heights:
                for change, claim in ((-1, value), (1, value), (1, value + 1)):
                    changed = {**heights, pair: heights[pair] + change}
                    answer = slow_check(graph, changed, claim)
                    told[answer] += 1
                    self.assertIs(check_pair_heights(graph, changed, claim), answer)
        self.assertGreater(min(told.values()), 50)


if __name__ == "__main__":
    unittest.main()
