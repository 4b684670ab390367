"""Points 36 and 37: least bills of teams, and losses."""

import unittest
from random import Random

from foreworth.components import component_of, components, kinds
from foreworth.errors import Incomplete, TooLarge
from foreworth.graph import END, Graph
from foreworth.least import least, least_by_component, loss, loss_by_component, stretches
from foreworth.runs import price_of
from foreworth.schedules import is_complete
from tests.samples import THREE_RINGS, TWO_DOORS, WILD, random_graphs, random_runs, tame_graphs
from tests.slow import cheapest_bill


def short_teams(many, *, seed):
    """Pairs of a random graph and a small team of it."""
    source = Random(seed)
    found = []
    for graph in random_graphs(many, most=6, seed=seed) + tame_graphs(many, most=10, seed=seed):
        runs = random_runs(graph, 4, seed=source.randint(1, 99))
        short = [run for run in runs if len(run) <= 14][:3]
        found.append((graph, short))
    return found


class StretchesTest(unittest.TestCase):
    def test_single_ring_and_wild_components(self):
        self.assertEqual(stretches(Graph(TWO_DOORS), [0, 2, 1, 2, 3]),
                         [(0, [0]), (1, [2, 1, 2]), (2, [3])])
        self.assertEqual(stretches(Graph(WILD), [0, 1, 3, 1, 2, 1, 3, 4]),
                         [(0, [0]), (1, [1, 3, 1, 2, 1, 3]), (2, [4])])

    def test_numbers_of_components(self):
        graph = Graph([("a", 1, (3, 2)), ("b", 1, (END,)), ("c", 1, (END,)), ("d", 1, (1,))])
        self.assertEqual(stretches(graph, [0, 3, 1]), [(0, [0]), (2, [3]), (3, [1])])
        self.assertEqual(stretches(graph, [0, 2]), [(0, [0]), (1, [2])])

    def test_stretches_make_the_run(self):
        for graph in random_graphs(60):
            index = component_of(graph)
            for run in random_runs(graph, 3):
                found = stretches(graph, run)
                self.assertEqual([node for _, nodes in found for node in nodes], run)
                numbers = [number for number, _ in found]
                self.assertEqual(numbers, sorted(set(numbers)))
                for number, nodes in found:
                    self.assertEqual([index[node] for node in nodes], [number] * len(nodes))


class LeastTest(unittest.TestCase):
    def test_single_components(self):
        graph = Graph(TWO_DOORS)
        runs = [[0, 1], [0, 1, 2, 3], [0, 1, 2]]
        self.assertEqual(least_by_component(graph, runs), [1, 7, 2])
        self.assertEqual(least(graph, runs), (10, [0, 1, 2, 3]))

    def test_components_to_which_no_lane_comes(self):
        graph = Graph(TWO_DOORS)
        self.assertEqual(least_by_component(graph, [[0, 1]]), [1, 4, 0])
        self.assertEqual(least(graph, [[0, 1]]), (5, [0, 1]))
        self.assertEqual(least_by_component(graph, []), [0, 0, 0])
        self.assertEqual(least(graph, []), (0, []))
        graph = Graph([("a", 1, (1, END)), ("b", 2, (2, 1)), ("c", 3, (3, 2)), ("d", 1, (3, 2, END))])
        self.assertEqual(least(graph, [[0], [0]]), (1, [0]))
        self.assertEqual(least_by_component(graph, [[0]]), [1, 0, 0])

    def test_rings(self):
        graph = Graph(TWO_DOORS)
        runs = [[0, 1, 2, 1], [0, 2, 1, 2, 3]]
        # From node 1: 1, 2, 1, 2 with the second stay from the first 2 on. From node 2 it
        # would be 2, 1, 2, 1, which costs the same.
        self.assertEqual(least(graph, runs), (17, [0, 1, 2, 1, 2, 3]))
        self.assertEqual(least(graph, [[0, 2, 1]]), (8, [0, 2, 1]))
        self.assertEqual(least(graph, [[0, 2], [0, 2, 1, 2, 3], [0, 1]]), (13, [0, 2, 1, 2, 3]))

    def test_positions_of_a_ring_are_told_as_nodes(self):
        graph = Graph([("a", 1, (3,)), ("b", 2, (2, END)), ("c", 3, (4,)), ("d", 4, (1,)),
                       ("e", 5, (3, 3))])
        self.assertEqual(least(graph, [[0, 3, 1], [0, 3, 1, 2, 4, 3, 1]]),
                         (21, [0, 3, 1, 2, 4, 3, 1]))

    def test_wild_components(self):
        graph = Graph(WILD)
        runs = [[0, 1, 2, 1, 3, 4], [0, 1, 3, 4]]
        self.assertEqual(least_by_component(graph, runs), [1, 8, 5])
        self.assertEqual(least(graph, runs), (14, [0, 1, 2, 1, 3, 4]))
        runs = [[0, 1, 2, 1, 3, 4], [0, 1, 3, 1, 3, 4]]
        # 1 2 3 1 3 or 1 3 2 1 3, the least in the order of lists.
        self.assertEqual(least(graph, runs), (15, [0, 1, 2, 3, 1, 3, 4]))

    def test_parts_in_the_order_of_the_components(self):
        graph = Graph([("a", 1, (3, 2)), ("b", 5, (1, END)), ("c", 1, (END,)), ("d", 1, (1,))])
        self.assertEqual(least(graph, [[0, 3, 1, 1], [0, 2]]), (13, [0, 2, 3, 1, 1]))
        self.assertEqual(least_by_component(graph, [[0, 3, 1, 1], [0, 2]]), [1, 1, 1, 10])
        graph = Graph(THREE_RINGS)
        runs = [[0, 1, 4, 2, 5, 6, 6], [0, 1, 0, 2, 3, 4, 5]]
        self.assertEqual(least_by_component(graph, runs), [7, 15, 1, 14])
        self.assertEqual(least(graph, runs), (37, [0, 1, 0, 2, 3, 4, 2, 5, 6, 6]))

    def test_alike_stretches_in_a_wild_component_count_once(self):
        graph = Graph(WILD)
        runs = [[0, 1, 2, 1, 3, 4]] * 60 + [[0, 1, 3, 4]] * 5
        self.assertEqual(least(graph, runs)[0], 14)
        # Runs that differ elsewhere are alike in the wild component.
        rows = [("a", 1, (0, 1)), *WILD[1:]]
        runs = [[0] * many + [1, 2] * 24 + [1, 3, 4] for many in range(1, 61)]
        self.assertEqual(least(Graph(rows), runs)[0], 60 + 5 * 24 + 3 + 5)

    def test_too_large_from_wild_components_alone(self):
        graph = Graph(WILD)
        long = [[0] + [1, 2] * 40 + [1, 3, 4], [0] + [1, 3] * 41 + [4]]
        self.assertEqual(least(graph, long[:1])[0], 1 + 5 * 40 + 3 + 5)
        for call in (least, least_by_component):
            with self.assertRaises(TooLarge):
                call(graph, long)
        graph = Graph(TWO_DOORS)
        runs = [[0] + [1, 2] * many + [3] for many in range(1, 31)]
        runs += [[0, 2] + [1, 2] * (1999 - many) + [3] for many in range(30)]
        self.assertEqual(least(graph, runs)[0], 1 + 3 + 7 * 1999 + 2)

    def test_product_just_at_the_limit(self):
        graph = Graph([("a", 1, (0, 0, 1)), ("b", 1, (2, 1)), ("c", 1, (1, END))])
        self.assertEqual(kinds(graph), ["ring", "wild"])
        # 50 and 100 fronts.
        runs = [[0] + [1] * 48 + [2], [0] + [1, 1, 1] + [2, 1] * 47 + [1, 2]]
        self.assertEqual([len(run) for run in runs], [50, 100])
        self.assertEqual(least(graph, runs)[0], 100)
        runs[1] = [0] + [1, 1, 1, 1] + [2, 1] * 47 + [1, 2]
        with self.assertRaises(TooLarge):
            least(graph, runs)

    def test_no_complete_schedule_is_cheaper(self):
        seen = set()
        for graph, runs in short_teams(150, seed=21):
            bill, schedule = least(graph, runs)
            self.assertEqual(bill, cheapest_bill(graph, runs))
            self.assertEqual(price_of(graph, schedule), bill)
            self.assertTrue(is_complete(runs, schedule))
            self.assertEqual(sum(least_by_component(graph, runs)), bill)
            seen |= set(kinds(graph)) if len({tuple(run) for run in runs}) > 2 else set()
        self.assertEqual(seen, {"single", "ring", "wild"})

    def test_lists_stay_and_are_new(self):
        graph = Graph(TWO_DOORS)
        run = [0, 1, 2, 3]
        runs = [run]
        least(graph, runs)[1].clear()
        least_by_component(graph, runs).clear()
        stretches(graph, run)[1][1].append(7)
        schedule = [0, 1, 2, 3]
        loss_by_component(graph, runs, schedule).clear()
        self.assertEqual((runs, schedule), ([[0, 1, 2, 3]], [0, 1, 2, 3]))
        self.assertEqual(least(graph, runs), (10, [0, 1, 2, 3]))
        self.assertEqual(stretches(graph, run), [(0, [0]), (1, [1, 2]), (2, [3])])


class LossTest(unittest.TestCase):
    def test_losses(self):
        graph = Graph(TWO_DOORS)
        runs = [[0, 1, 2, 3], [0, 2, 3]]
        self.assertEqual(loss(graph, runs, [0, 1, 2, 3]), 0)
        self.assertEqual(loss_by_component(graph, runs, [0, 1, 2, 3]), [0, 0, 0])
        self.assertEqual(loss(graph, runs, [0, 2, 3, 1, 2, 3]), 5)
        self.assertEqual(loss_by_component(graph, runs, [0, 2, 3, 1, 2, 3]), [0, 3, 2])
        # Beats that move no lane cost, too, also where no lane comes.
        self.assertEqual(loss_by_component(graph, [[0, 1]], [0, 0, 1, 3]), [1, 0, 2])
        self.assertEqual(loss(graph, [], [0, 3]), 3)
        self.assertEqual(loss(graph, [], []), 0)
        self.assertEqual(loss_by_component(graph, [], []), [0, 0, 0])

    def test_incomplete(self):
        graph = Graph(TWO_DOORS)
        for schedule in ([], [0, 1, 2], [1, 0, 2, 3], [0, 2, 3, 1]):
            for call in (loss, loss_by_component):
                with self.assertRaises(Incomplete):
                    call(graph, [[0, 1, 2, 3], [0, 2, 3]], schedule)

    def test_incomplete_ahead_of_too_large(self):
        graph = Graph(WILD)
        runs = [[0] + [1, 2] * 40 + [1, 3, 4], [0] + [1, 3] * 41 + [4]]
        schedule = [node for run in runs for node in run]
        for call in (loss, loss_by_component):
            with self.assertRaises(Incomplete):
                call(graph, runs, schedule[:-1])
            with self.assertRaises(TooLarge):
                call(graph, runs, schedule)

    def test_losses_of_components_add_up(self):
        source = Random(22)
        for graph, runs in short_teams(100, seed=23):
            schedule = []
            left = [list(run) for run in runs]
            while any(left):
                node = source.choice([run[0] for run in left if run])
                schedule.append(node)
                left = [run[1:] if run[:1] == [node] else run for run in left]
                if source.randint(0, 4) == 0:
                    schedule.append(source.randint(0, graph.size - 1))
                    left = [run[1:] if run[:1] == schedule[-1:] else run for run in left]
            losses = loss_by_component(graph, runs, schedule)
            bills = [price_of(graph, [node for node in schedule if node in nodes])
                     for nodes in components(graph)]
            leasts = least_by_component(graph, runs)
            self.assertEqual(losses, [bill - low for bill, low in zip(bills, leasts)])
            self.assertGreaterEqual(min(losses), 0)
            self.assertEqual(sum(losses), loss(graph, runs, schedule))
            self.assertEqual(sum(losses), price_of(graph, schedule) - least(graph, runs)[0])


if __name__ == "__main__":
    unittest.main()
