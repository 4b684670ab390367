"""Points 20 and 21: walking trees."""

import unittest
from random import Random

from foreworth.printer import show
from foreworth.reader import read
from foreworth.runs import log_of, run_of
from foreworth.walker import walk
from tests.lines import Lines
from tests.samples import trees_with_graphs

TEXT = "loop\ndo a 3\nchoose b 5\narm\narm\nleave\narm\ndo c 7\nclose\nclose\ndo d 1"


class WalkerTest(unittest.TestCase):
    def setUp(self):
        self.tree = read(TEXT)

    def test_log(self):
        a, b, c, d = ("a", 3, 1), ("b", 5, 3), ("c", 7, 1), ("d", 1, 1)
        self.assertEqual(walk(self.tree, [1]), ([a, b, d], True))
        self.assertEqual(walk(self.tree, [2, 0, 1]), ([a, b, c, a, b, a, b, d], True))

    def test_choices_are_taken_modulo_the_ways(self):
        self.assertEqual(walk(self.tree, [3 * 10 ** 8 + 1]), walk(self.tree, [1]))
        self.assertEqual(walk(self.tree, [5, 3, 4]), walk(self.tree, [2, 0, 1]))

    def test_choices_used_up(self):
        log, ended = walk(self.tree, [2], limit=9)
        self.assertEqual([entry[0] for entry in log], list("abcababab"))
        self.assertFalse(ended)
        self.assertEqual(walk(self.tree, [], limit=5), (walk(self.tree, [0, 0, 0], limit=5)))

    def test_a_node_with_one_way_takes_no_choice(self):
        self.assertEqual(walk(read("do a 1\ndo b 1\nchoose c 1\narm\narm\ndo d 1\nclose"), [1])[0],
                         [("a", 1, 1), ("b", 1, 1), ("c", 1, 2), ("d", 1, 1)])

    def test_limits(self):
        self.assertEqual(walk(self.tree, [1], limit=0), ([], False))
        self.assertEqual(walk(self.tree, [1], limit=2), ([("a", 3, 1), ("b", 5, 3)], False))
        self.assertEqual(walk(self.tree, [1], limit=3), walk(self.tree, [1]))
        self.assertTrue(walk(self.tree, [1], limit=3)[1])
        self.assertEqual(len(walk(self.tree, [])[0]), 400)
        self.assertEqual(len(walk(self.tree, [], limit=4000)[0]), 4000)

    def test_stop_behind_the_last_permitted_node(self):
        tree = read("do a 1\njump x\nmark x\nstop")
        self.assertEqual(walk(tree, [], limit=1), ([("a", 1, 1)], True))

    def test_walks_and_runs_agree(self):
        source = Random(5)
        for tree, graph in trees_with_graphs(150):
            for many in (0, 1, 3, 8, 40):
                choices = [source.randint(0, 9) for _ in range(many)]
                kept = list(choices)
                for limit in (0, 1, 2, 5, 60, 400):
                    nodes, ended = run_of(graph, choices, limit=limit)
                    self.assertEqual(walk(tree, choices, limit=limit), (log_of(graph, nodes), ended))
                length = len(run_of(graph, choices, limit=60)[0])
                for limit in (length, length - 1):
                    nodes, ended = run_of(graph, choices, limit=limit)
                    self.assertEqual(walk(tree, choices, limit=limit), (log_of(graph, nodes), ended))
                self.assertEqual(choices, kept)

    def test_control_as_the_lines_say(self):
        source = Random(8)
        for tree, _ in trees_with_graphs(300):
            lines = Lines(show(tree))
            for many in (0, 2, 5, 30):
                choices = [source.randint(0, 9) for _ in range(many)]
                for limit in (0, 1, 4, 50):
                    self.assertEqual(walk(tree, choices, limit=limit), lines.walk(choices, limit))

    def test_many_moves_between_nodes(self):
        lines = ["loop", "choose a 1", "arm", "leave", "arm", "close"]
        lines += ["mark " + name for name in ("x" * many for many in range(1, 9))] + ["close"]
        self.assertEqual(len(walk(read("\n".join(lines)), [1] * 400, limit=4000)[0]), 401)

    def test_lists_are_new(self):
        choices = [2, 1]
        walk(self.tree, choices)[0].clear()
        self.assertEqual(choices, [2, 1])
        self.assertEqual(len(walk(self.tree, choices)[0]), 6)


if __name__ == "__main__":
    unittest.main()
