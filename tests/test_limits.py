"""Point 3: inputs at the limits, for the modules whose own tests have none."""

import unittest

from foreworth.blocks import block_run, blocks
from foreworth.changes import split_node, split_run, with_price, with_successor
from foreworth.components import component_of, components, kinds
from foreworth.covers import lift
from foreworth.duel import duel
from foreworth.few import check_few, few_cost, few_paper, lanes_for
from foreworth.flow import graph_of, tree_of
from foreworth.fronts import check_heights, front_heights, least_row
from foreworth.graph import END, Graph
from foreworth.helper import word_count, word_doors, word_of, word_team
from foreworth.joins import join
from foreworth.laying import least_laying, union_beats, union_price
from foreworth.least import least, loss, loss_by_component, stretches
from foreworth.machine import Machine
from foreworth.pairs import check_pair_heights, pair_heights, pair_routes, pair_worth
from foreworth.papers import check_paper, worth_paper
from foreworth.paths import shortest_path
from foreworth.plays import play
from foreworth.policies import ByRow, Fixed, LeastNode, MostLanes, Peek
from foreworth.printer import show
from foreworth.projected import Projected
from foreworth.reader import read
from foreworth.rings import Ring, ring_of, rings
from foreworth.rounds import BehindGap, BehindNow, RoundFrom
from foreworth.routes import doors_met, full_routes, route_cost, route_of
from foreworth.runs import check_team, choices_of, log_of, price_of, run_of
from foreworth.schedules import is_complete, prefixes, thin
from foreworth.sweeps import Sweep, back_steps
from foreworth.walker import walk
from foreworth.wildfoe import WildAdversary
from foreworth.worth import is_worthless, worth
from tests.samples import ring_graph, ring_run

GREAT = 10 ** 9
# 140 nodes in a ring with 60 doors; the cost of all of them is 59 great prices.
RING = Ring([GREAT] * 140, list(range(60)))
ROUND = ring_graph(RING)
# 60 runs of 4000 nodes, one from each door.
RUNS = [ring_run(RING, door, 4000 - 1 - door) for door in RING.doors]
SHORT_RUNS = [ring_run(RING, door, 141 + door) for door in RING.doors]
CHAIN = Graph([("a", GREAT, (node + 1,)) for node in range(199)] + [("b", GREAT, (END,))])
# Each node leads to three others and to END; all 200 are one wild component.
DENSE = Graph([("abcdefgh", GREAT, ((node + 1) % 200, (node * 7 + 3) % 200, (node + 50) % 200, END))
               for node in range(200)])
# A hundred rings with two doors each, of two nodes.
LADDER = Graph([("a", GREAT, tuple(target if target < 200 else END for target in
                 ((node + 1, node + 2, node + 3) if node % 2 == 0 else (node - 1, node + 1))))
                for node in range(200)])


class GraphTest(unittest.TestCase):
    def test_graphs_of_200_nodes(self):
        for graph, kind, many in ((CHAIN, "single", 200), (DENSE, "wild", 1), (LADDER, "ring", 100)):
            self.assertEqual(kinds(graph), [kind] * many)
            self.assertEqual(sum(map(len, components(graph))), 200)
            self.assertEqual(max(component_of(graph)), many - 1)
            self.assertTrue(check_paper(graph, worth_paper(graph)))
            self.assertEqual(graph_of(tree_of(graph)).rows(), graph.rows())
            self.assertEqual(graph_of(read(show(tree_of(graph)))).rows(), graph.rows())
        self.assertEqual((worth(CHAIN), worth(DENSE)), (0, None))
        # All rings but the first one, at node 0, have two doors.
        self.assertEqual(worth(LADDER), 99 * GREAT)
        self.assertEqual([is_worthless(graph) for graph in (CHAIN, DENSE, LADDER)],
                         [True, False, False])
        self.assertEqual(shortest_path(CHAIN, 0, END), list(range(200)))
        self.assertEqual(len(shortest_path(LADDER, 0, END)), 100)
        self.assertEqual(len(rings(LADDER)), 100)
        self.assertEqual(ring_of(ROUND, list(range(140, 0, -1))).cost(), 59 * GREAT)

    def test_changes(self):
        self.assertEqual(with_price(CHAIN, 199, 1).price(199), 1)
        self.assertEqual(with_successor(CHAIN, 199, 0).successors(199), (END, 0))
        split = split_node(DENSE, 0, GREAT - 1)
        self.assertEqual((split.size, split.price(200)), (201, 1))
        self.assertEqual(len(split_run([0] * 4000, 0, 200)), 8000)


class TextTest(unittest.TestCase):
    def test_texts_of_700_lines(self):
        price = 10 ** 12 - 1
        lines = [f"do abcdefgh {price}"] * 700
        text = "\n".join(lines)
        tree = read(text)
        self.assertEqual(show(tree), text)
        self.assertEqual(graph_of(read("\n".join(lines[:200]))).price(199), price)
        self.assertEqual(walk(tree, [], limit=4000), ([("abcdefgh", price, 1)] * 700, True))

    def test_blocks_within_blocks(self):
        opening = ["loop", "do a 1", "choose b 2", "arm", "leave", "arm"] * 6
        text = "\n".join([*opening, *["do c 3"] * 600, *["close"] * 12])
        tree = read(text)
        self.assertEqual(show(tree), text)
        log, ended = walk(tree, [GREAT - 1] * 400, limit=4000)
        self.assertIs(ended, False)
        self.assertEqual(len(log), 4000)

    def test_long_walks(self):
        tree = read("loop\nchoose a 1\narm\nleave\narm\nclose\nclose")
        self.assertEqual(walk(tree, [1] * 3999, limit=4000), ([("a", 1, 2)] * 4000, True))
        self.assertEqual(walk(tree, [GREAT + 1] * 400, limit=4000)[0], [("a", 1, 2)] * 401)


class TeamTest(unittest.TestCase):
    def test_long_runs(self):
        self.assertEqual({len(run) for run in RUNS}, {4000})
        self.assertIsNone(check_team(ROUND, RUNS))
        for run in (RUNS[0], RUNS[59]):
            self.assertEqual(run_of(ROUND, choices_of(ROUND, run), limit=4000), (run, True))
            self.assertEqual(len(log_of(ROUND, run)), 4000)
            self.assertGreater(price_of(ROUND, run), 3900 * GREAT)
            self.assertEqual(sum(len(nodes) for _, nodes in stretches(ROUND, run)), 4000)

    def test_machines_and_schedules(self):
        bill, row = least(ROUND, RUNS)
        machine = Machine(ROUND, RUNS)
        for node in row:
            machine.beat(node)
        self.assertTrue(machine.over)
        self.assertEqual((machine.bill, machine.schedule()), (bill, row))
        idle = (row + [1] * 20000)[:20000]
        self.assertEqual(prefixes(RUNS, idle), [4000] * 60)
        self.assertTrue(is_complete(RUNS, idle))
        self.assertEqual(thin(RUNS, idle), row)
        self.assertEqual(loss(ROUND, RUNS, idle), GREAT * (20000 - len(row)))
        self.assertEqual(sum(loss_by_component(ROUND, RUNS, idle)), loss(ROUND, RUNS, idle))

    def test_rings(self):
        ring = Ring([GREAT] * 4000, list(range(0, 4000, 50)))
        stays = [(door, 4000) for door in ring.doors[:60]]
        self.assertEqual(least_laying(ring, stays), (GREAT * (2950 + 4000), 0))
        self.assertEqual(union_price(ring, stays, 2950), GREAT * (3999 + 50 - 3999 + 7900))
        self.assertEqual(len(union_beats(ring, stays, 0)), 6950)
        self.assertEqual(ring.cost(), GREAT * 3950)

    def test_rows(self):
        rows = [[place % 2 for place in range(4999)]]
        self.assertEqual(least_row([GREAT, 1], rows), (2500 * GREAT + 2499, rows[0]))
        heights = front_heights([GREAT, 1], rows)
        self.assertTrue(check_heights([GREAT, 1], rows, heights, 2500 * GREAT + 2499))
        rows = [[place % 3 for place in range(69)], [2 - place % 3 for place in range(69)]]
        height, symbols = least_row([GREAT, GREAT, GREAT], rows)
        self.assertEqual(height, GREAT * len(symbols))
        self.assertTrue(is_complete(rows, symbols))
        rows = [[place % 3] for place in range(12)]
        self.assertEqual(least_row([GREAT, 1, 1], rows), (GREAT + 2, [0, 1, 2]))

    def test_routes(self):
        self.assertEqual(len(route_of(ROUND, RUNS[0])), 1 + (3999 - 1) % 140 + 1)
        self.assertEqual(doors_met(ROUND, RUNS), [list(range(60))])
        self.assertEqual(route_cost(ROUND, RUNS), 59 * GREAT)
        self.assertEqual(route_cost(ROUND, full_routes(ROUND)), 59 * GREAT)

    def test_few_lanes(self):
        ring = Ring([GREAT - place for place in range(200)], list(range(200)))
        for lanes in (1, 7, 60):
            cost, doors = few_cost(ring, lanes)
            self.assertEqual(ring.cost(doors=tuple(doors)), cost)
            self.assertLessEqual(lanes_for(ring, cost), lanes)
            self.assertTrue(check_few(ring, lanes, few_paper(ring, lanes)))

    def test_pairs(self):
        rows = [("a", GREAT, tuple(target if target < 60 else END for target in
                 ((node + 1, node + 2, node + 3) if node % 2 == 0 else (node - 1, node + 1))))
                for node in range(60)]
        graph = Graph(rows)
        self.assertEqual(pair_worth(graph), 29 * GREAT)
        self.assertEqual(route_cost(graph, list(pair_routes(graph))), 29 * GREAT)
        self.assertTrue(check_pair_heights(graph, pair_heights(graph), 29 * GREAT))

    def test_a_helper(self):
        self.assertEqual(word_count(ROUND, RUNS), 60)
        word = word_of(ROUND, RUNS)
        self.assertEqual(word_doors(ROUND, RUNS, word), [1 + word])
        self.assertEqual(word_of(ROUND, word_team(ROUND, RUNS, 59)), 59)
        self.assertEqual(word_count(LADDER, [list(range(0, 200, 2)), [0, 3, 5, *range(6, 200, 2)]]), 4)


class PolicyTest(unittest.TestCase):
    def test_plays_of_60_long_runs(self):
        for policy in (RoundFrom(ROUND, [30]), BehindGap(ROUND), BehindNow(ROUND),
                       Sweep(ROUND, list(range(ROUND.size)))):
            schedule = play(ROUND, RUNS, policy)
            self.assertTrue(is_complete(RUNS, schedule))
            again = play(ROUND, RUNS, Fixed(schedule))
            self.assertEqual(again, schedule)

    def test_plays_of_all_policies(self):
        for policy in (LeastNode(), MostLanes(), ByRow([GREAT] * 400), Peek()):
            schedule = play(ROUND, SHORT_RUNS, policy, sight=50)
            self.assertTrue(is_complete(SHORT_RUNS, schedule))

    def test_projected_plays(self):
        top, mapping = join(ROUND)
        policy = Projected(top, ROUND, mapping, BehindGap(top))
        self.assertTrue(is_complete(RUNS, play(ROUND, RUNS, policy)))

    def test_orders(self):
        order = list(range(200))
        self.assertEqual(back_steps(DENSE, order, [*range(200)] * 20), [19])

    def test_duels_with_what_an_adversary_told(self):
        # The runs are far longer than 4000 nodes; they may be passed back in.
        # The lanes go together but for nodes 1 and 2.
        rows = [("a", 1, (1, 2)), ("b", 1, (3,)), ("c", 1, (3,))]
        rows += [("d", 1, (node + 1,)) for node in range(3, 150)]
        graph = Graph([*rows, ("e", 1, (0, END))])
        runs, schedule = duel(WildAdversary(graph, 60, sight=50), MostLanes())
        self.assertGreater(max(map(len, runs)), 8000)
        self.assertIsNone(check_team(graph, runs))
        self.assertEqual(Machine(graph, runs).standing(), [0, 0])
        self.assertEqual(play(graph, runs, Fixed(schedule)), schedule)
        self.assertTrue(is_complete(runs, schedule))
        self.assertEqual(prefixes(runs, thin(runs, schedule)), list(map(len, runs)))
        run = max(runs, key=len)
        self.assertEqual(run_of(graph, choices_of(graph, run), limit=len(run)), (run, True))
        self.assertEqual([len(nodes) for _, nodes in stretches(graph, run)], [len(run)])
        self.assertEqual(lift(graph, graph, run), run)
        self.assertEqual(block_run(blocks(graph)[1], run).count(0), run.count(0))


if __name__ == "__main__":
    unittest.main()
