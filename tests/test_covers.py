"""Points 74 and 75: covers, pictures, lifts and extra bills."""

import unittest
from random import Random

from foreworth.components import kinds
from foreworth.covers import covers, extra, lift, picture
from foreworth.errors import TooLarge
from foreworth.graph import END, Graph
from foreworth.joins import join
from foreworth.least import least
from foreworth.rings import Ring
from foreworth.runs import check_team, choices_of, run_of
from tests.samples import (
    TWO_DOORS, WILD, plain_graphs, random_cover, random_graphs, random_runs, ring_graph, ring_run,
    tame_graphs)

# The doors of TWO_DOORS joined: node 4 is a copy of node 1, which goes on to node 2.
JOINED = [("a", 1, (4, 2)), ("b", 4, (2, END)), ("c", 3, (1, 3)), ("d", 2, (END,)),
          ("b", 4, (2, END))]
BELOW = [0, 1, 2, 3, 1]


def covers_of(graphs):
    """Random covers of some graphs, each with its graph and its mapping."""
    found = []
    for place, graph in enumerate(graphs):
        top, mapping = random_cover(graph, 1 + place % 3, seed=place)
        found.append((top, graph, mapping))
    return found


class CoversTest(unittest.TestCase):
    def setUp(self):
        self.top = Graph(JOINED)
        self.bottom = Graph(TWO_DOORS)

    def test_a_cover(self):
        self.assertIs(covers(self.top, self.bottom, BELOW), True)
        self.assertIs(covers(self.bottom, self.bottom, [0, 1, 2, 3]), True)
        self.assertIs(covers(self.bottom, self.top, [0, 1, 2, 3]), False)

    def test_mappings_of_another_length(self):
        for mapping in ([], BELOW[:-1], [*BELOW, 1], [0]):
            self.assertIs(covers(self.top, self.bottom, mapping), False)

    def test_numbers_that_are_no_nodes(self):
        for place in range(5):
            for number in (END, -2, -4, 4, 5, 1000):
                mapping = list(BELOW)
                mapping[place] = number
                self.assertIs(covers(self.top, self.bottom, mapping), False)
        # With -1 as the last node the rows would fit.
        bottom = Graph([("a", 1, (1,)), ("b", 1, (END,))])
        self.assertIs(covers(bottom, bottom, [0, 1]), True)
        self.assertIs(covers(bottom, bottom, [0, -1]), False)
        self.assertIs(covers(bottom, bottom, [-2, -1]), False)
        # Here -1 could be taken for END in row 0, and for the last node below node 2.
        bottom = Graph([("a", 1, (1, END)), ("b", 1, (END,))])
        top = Graph([("a", 1, (1, 2)), ("b", 1, (END,)), ("b", 1, (END,))])
        self.assertIs(covers(top, bottom, [0, 1, -1]), False)

    def test_other_nodes(self):
        for place in range(5):
            for number in range(4):
                mapping = list(BELOW)
                mapping[place] = number
                self.assertIs(covers(self.top, self.bottom, mapping), mapping == BELOW)

    def test_node_0(self):
        # Two nodes of the same form that lead to each other: node 0 must be below node 0.
        graph = Graph([("a", 1, (1, END)), ("a", 1, (0, END))])
        self.assertIs(covers(graph, graph, [0, 1]), True)
        self.assertIs(covers(graph, graph, [1, 0]), False)

    def test_each_part_of_a_row(self):
        for node, (word, price, targets) in enumerate(JOINED):
            self.check_other_row(node, ("z", price, targets))
            self.check_other_row(node, (word, price + 1, targets))
            self.check_other_row(node, (word, price, (*targets, END)))
            self.check_other_row(node, (word, price, (*targets, targets[-1])))
        for node, others in ((0, (4, 3)), (0, (2, 4)), (1, (2, 2)), (1, (END, 2)),
                             (2, (3, 1)), (2, (1, END, 3)), (3, (2,)), (4, (4, END))):
            self.check_other_row(node, (JOINED[node][0], JOINED[node][1], others))

    def check_other_row(self, node, row):
        top = Graph([*JOINED[:node], row, *JOINED[node + 1:]])
        self.assertIs(covers(top, self.bottom, BELOW), False, row)

    def test_end_is_above_end_alone(self):
        bottom = Graph([("a", 1, (1, END)), ("a", 1, (END, END))])
        self.assertIs(covers(bottom, bottom, [0, 1]), True)
        top = Graph([("a", 1, (1, END)), ("a", 1, (1, END))])
        self.assertIs(covers(top, bottom, [0, 1]), False)
        self.assertIs(covers(bottom, top, [0, 1]), False)

    def test_random_covers(self):
        for top, bottom, mapping in covers_of(random_graphs(80)):
            self.assertIs(covers(top, bottom, mapping), True)

    def test_arguments_stay(self):
        mapping = list(BELOW)
        covers(self.top, self.bottom, mapping)
        self.assertEqual(mapping, BELOW)


class LiftTest(unittest.TestCase):
    def test_picture_and_lift(self):
        top, bottom = Graph(JOINED), Graph(TWO_DOORS)
        for run, above in (([0, 1], [0, 4]), ([0, 2, 3], [0, 2, 3]),
                           ([0, 1, 2, 1, 2, 3], [0, 4, 2, 1, 2, 3])):
            self.assertEqual(lift(top, bottom, run), above)
            self.assertEqual(picture(BELOW, above), run)
        self.assertEqual(picture(BELOW, []), [])

    def test_random_lifts(self):
        for place, (top, bottom, mapping) in enumerate(covers_of(random_graphs(80, seed=20))):
            for run in random_runs(bottom, 4, seed=place):
                above = lift(top, bottom, run)
                self.assertIsNone(check_team(top, [above]))
                self.assertEqual(picture(mapping, above), run)
                self.assertEqual(choices_of(top, above), choices_of(bottom, run))
            for run in random_runs(top, 4, seed=place):
                self.assertIsNone(check_team(bottom, [picture(mapping, run)]))

    def test_successors_that_are_named_twice(self):
        # The lift takes the least choices, whatever the other ones lead to in the cover.
        bottom = Graph([("a", 1, (1, 1, 1)), ("b", 1, (END, 0, 0))])
        top = Graph([("a", 1, (1, 2, 3)), ("b", 1, (END, 0, 0)), ("b", 1, (END, 0, 4)),
                     ("b", 1, (END, 4, 4)), ("a", 1, (2, 2, 3))])
        self.assertTrue(covers(top, bottom, [0, 1, 1, 1, 0]))
        self.assertEqual(lift(top, bottom, [0, 1, 0, 1]), [0, 1, 0, 1])
        self.assertEqual(picture([0, 1, 1, 1, 0], [0, 3, 4, 2]), [0, 1, 0, 1])

    def test_long_runs(self):
        top, bottom = Graph(JOINED), Graph(TWO_DOORS)
        for many in (199, 200, 1999, 9000):
            run = [0, *[1, 2] * many, 3]
            self.assertEqual(lift(top, bottom, run), [0, 4, 2, *[1, 2] * (many - 1), 3])

    def test_what_is_returned_may_be_changed(self):
        top, bottom = Graph(JOINED), Graph(TWO_DOORS)
        run = [0, 1, 2, 3]
        lift(top, bottom, run).clear()
        picture(BELOW, run).clear()
        self.assertEqual(run, [0, 1, 2, 3])
        self.assertEqual(BELOW, [0, 1, 2, 3, 1])


class ExtraTest(unittest.TestCase):
    def test_extra_bills(self):
        top, bottom = Graph(JOINED), Graph(TWO_DOORS)
        self.assertEqual(extra(top, bottom, []), 0)
        self.assertEqual(extra(top, bottom, [[0, 1, 2, 3], [0, 2, 3]]), 0)
        # In the cover lane 0 comes by node 4, which lane 1 has no use for.
        self.assertEqual(extra(top, bottom, [[0, 1, 2, 3], [0, 2, 1, 2, 3]]), 4)
        self.assertEqual(extra(bottom, bottom, [[0, 1, 2, 3], [0, 2, 1, 2, 3]]), 0)

    def test_random_extra_bills(self):
        seen = set()
        for place, (top, bottom, _) in enumerate(covers_of(tame_graphs(80, seed=21))):
            runs = random_runs(bottom, 4, seed=place)
            found = extra(top, bottom, runs)
            lifted = [run_of(top, choices_of(bottom, run), limit=100)[0] for run in runs]
            self.assertEqual(found, least(top, lifted)[0] - least(bottom, runs)[0])
            self.assertGreaterEqual(found, 0)
            seen.add(found)
        self.assertGreater(len(seen), 5)

    def test_wild_components_stay(self):
        wild = 0
        for top, bottom, _ in covers_of(plain_graphs(150, seed=22)):
            if "wild" in kinds(bottom):
                wild += 1
                self.assertIn("wild", kinds(top))
        self.assertGreater(wild, 20)

    def test_too_large(self):
        graph = Graph(WILD)
        runs = [[0, *[1, 2] * 40, 1, 3, 4], [0, *[1, 3] * 40, 4]]
        with self.assertRaises(TooLarge):
            extra(graph, graph, runs)

    def test_limits(self):
        ring = Ring([10 ** 9] * 130, list(range(60)))
        bottom = ring_graph(ring)
        top, mapping = join(bottom)
        self.assertTrue(covers(top, bottom, mapping))
        runs = [ring_run(ring, door, 130) for door in ring.doors]
        self.assertEqual(extra(top, bottom, runs), 0)
        runs[59] = ring_run(ring, 59, 3900)
        self.assertEqual(extra(top, bottom, runs), 59 * 10 ** 9)


if __name__ == "__main__":
    unittest.main()
