"""Points 18, 19 and 22: graphs of trees, and canonical trees."""

import unittest

from foreworth.errors import BadStart, BareLoop, NoEnd, Unreachable
from foreworth.flow import graph_of, name_of, tree_of
from foreworth.graph import END, Graph
from foreworth.printer import show
from foreworth.reader import read
from tests.lines import Lines
from tests.samples import random_graphs, random_trees, trees_with_graphs


def rows_of(*lines):
    return graph_of(read("\n".join(lines))).rows()


def fault_of_lines(text):
    """The fault that point 19 finds before the graph is made, and the bare statement."""
    lines = Lines(text)
    for number, place in enumerate(lines.statements()):
        if lines.rest(place) is None:
            return BareLoop, number
    nodes = [place for place, parts in enumerate(lines.lines) if parts[0] in ("do", "choose")]
    if not nodes or lines.rest(0) != nodes[0]:
        return BadStart, None
    return None, None


class GraphOfTest(unittest.TestCase):
    def bare(self, number, *lines):
        with self.subTest(lines=lines), self.assertRaises(BareLoop) as caught:
            rows_of(*lines)
        self.assertEqual(caught.exception.statement, number)

    def test_one_after_the_other(self):
        self.assertEqual(rows_of("do a 1", "do b 22"), [("a", 1, (1,)), ("b", 22, (END,))])

    def test_stop_and_the_end_of_the_text(self):
        self.assertEqual(rows_of("choose a 1", "arm", "stop", "arm", "close", "do b 2"),
                         [("a", 1, (END, 1)), ("b", 2, (END,))])
        self.assertEqual(rows_of("choose a 1", "arm", "arm", "arm", "close"),
                         [("a", 1, (END, END, END))])

    def test_arms(self):
        rows = rows_of("choose a 1", "arm", "do b 1", "do c 1", "arm", "arm", "do d 1", "arm",
                       "choose e 1", "arm", "arm", "do f 1", "close", "close", "do g 1")
        self.assertEqual(rows, [
            ("a", 1, (1, 6, 3, 4)), ("b", 1, (2,)), ("c", 1, (6,)), ("d", 1, (6,)),
            ("e", 1, (6, 5)), ("f", 1, (6,)), ("g", 1, (END,)),
        ])

    def test_loops(self):
        rows = rows_of("loop", "do a 1", "choose b 2", "arm", "leave", "arm", "again", "arm",
                       "close", "do c 3", "close", "do d 4")
        self.assertEqual(rows, [
            ("a", 1, (1,)), ("b", 2, (3, 0, 2)), ("c", 3, (0,)), ("d", 4, (END,)),
        ])

    def test_leave_and_again_mean_the_innermost_loop(self):
        rows = rows_of("loop", "do a 1", "loop", "choose b 2", "arm", "leave", "arm", "again",
                       "arm", "stop", "close", "close", "close")
        self.assertEqual(rows, [("a", 1, (1,)), ("b", 2, (0, 1, END))])
        # Behind the inner loop, `leave` leaves the outer one.
        rows = rows_of("loop", "choose a 1", "arm", "loop", "do b 1", "leave", "close", "leave",
                       "arm", "close", "close")
        self.assertEqual(rows, [("a", 1, (1, 0)), ("b", 1, (END,))])

    def test_the_beginning_of_a_body_may_be_a_loop(self):
        rows = rows_of("loop", "loop", "choose a 1", "arm", "leave", "arm", "close", "close",
                       "choose b 1", "arm", "again", "arm", "leave", "close", "close")
        self.assertEqual(rows, [("a", 1, (1, 0)), ("b", 1, (0, END))])

    def test_jumps_in_and_out_of_blocks(self):
        rows = rows_of("choose a 1", "arm", "jump in", "arm", "close", "loop", "do b 2", "mark in",
                       "do c 3", "jump out", "close", "mark out", "do d 4")
        # Nothing goes on in the loop behind `jump out`, so `b` leads on to it alone.
        self.assertEqual(rows, [("a", 1, (2, 1)), ("b", 2, (2,)), ("c", 3, (3,)), ("d", 4, (END,))])
        rows = rows_of("choose a 1", "arm", "mark x", "do b 2", "arm", "do c 3", "jump x", "close",
                       "do d 4")
        self.assertEqual(rows, [("a", 1, (1, 2)), ("b", 2, (3,)), ("c", 3, (1,)), ("d", 4, (END,))])
        rows = rows_of("choose a 1", "arm", "jump x", "arm", "close", "loop", "choose b 1", "arm",
                       "mark x", "arm", "leave", "close", "close")
        self.assertEqual(rows, [("a", 1, (1, 1)), ("b", 1, (1, END))])

    def test_a_mark_at_the_end(self):
        self.assertEqual(rows_of("do a 1", "jump x", "mark x"), [("a", 1, (END,))])

    def test_numbers_in_the_order_of_lines(self):
        rows = rows_of("choose a 1", "arm", "loop", "do b 2", "leave", "close", "arm", "do c 3",
                       "close", "do d 4")
        self.assertEqual([row[0] for row in rows], ["a", "b", "c", "d"])

    def test_bare_loops(self):
        self.bare(0, "loop", "close")
        self.bare(1, "do a 1", "loop", "close", "do b 1")
        self.bare(0, "loop", "again", "close")
        self.bare(0, "loop", "mark x", "close")
        self.bare(0, "mark x", "jump x")
        self.bare(1, "do a 1", "mark x", "loop", "jump x", "close")
        self.bare(0, "loop", "loop", "leave", "close", "close")

    def test_a_mark_before_a_bare_loop_is_bare(self):
        self.bare(1, "do a 1", "mark x", "loop", "close")
        self.bare(0, "mark x", "mark y", "loop", "close")

    def test_a_jump_to_a_bare_loop_is_bare(self):
        self.bare(1, "choose a 1", "arm", "jump x", "arm", "stop", "close", "mark x", "loop", "close")

    def test_bare_statements_where_no_lane_comes(self):
        self.bare(2, "do a 1", "stop", "loop", "close")
        self.bare(2, "do a 1", "stop", "mark x", "jump x")
        self.bare(3, "loop", "do a 1", "leave", "loop", "again", "close", "close")
        self.bare(4, "choose a 1", "arm", "stop", "mark x", "stop", "arm", "loop", "close", "close")
        self.bare(4, "loop", "do a 1", "again", "stop", "loop", "again", "close", "close")

    def test_statements_are_numbered_without_arms_and_closes(self):
        self.bare(6, "choose a 1", "arm", "do b 1", "arm", "loop", "do c 1", "leave", "close",
                  "close", "stop", "loop", "close")

    def test_each_statement_before_a_bare_loop_is_bare(self):
        # The `leave` has the number 3, and goes to the bare loop behind its own loop.
        self.bare(3, "do a 1", "loop", "do b 1", "leave", "close", "loop", "close")
        self.bare(2, "choose a 1", "arm", "stop", "arm", "mark x", "close", "loop", "close")

    def test_loops_that_are_not_bare(self):
        rows_of("loop", "leave", "close", "do a 1")
        rows_of("do a 1", "stop", "loop", "stop", "close")
        rows_of("loop", "loop", "do a 1", "leave", "close", "leave", "close")

    def test_bare_loops_come_first(self):
        self.bare(1, "stop", "loop", "close")
        self.bare(3, "do a 1", "stop", "do b 1", "loop", "close")

    def test_bad_start(self):
        for lines in (
            ("stop",), ("mark x",), ("jump x", "mark x"), ("loop", "leave", "close"),
            ("stop", "do a 1"), ("jump x", "do a 1", "mark x", "do b 1"),
            ("jump x", "do a 1", "mark x"),
            ("loop", "leave", "do a 1", "close", "do b 1"),
        ):
            with self.subTest(lines=lines), self.assertRaises(BadStart):
                rows_of(*lines)

    def test_bad_start_comes_before_the_errors_of_the_graph(self):
        with self.assertRaises(BadStart):
            rows_of("jump x", "do a 1", "mark x", "loop", "do b 1", "close")

    def test_starts(self):
        self.assertEqual(rows_of("mark x", "loop", "jump y", "leave", "mark y", "do a 1", "leave",
                                 "close"), [("a", 1, (END,))])

    def test_errors_of_the_graph(self):
        with self.assertRaises(Unreachable) as caught:
            rows_of("do a 1", "stop", "do b 1", "do c 1")
        self.assertEqual(caught.exception.node, 1)
        with self.assertRaises(Unreachable) as caught:
            rows_of("loop", "do a 1", "close", "do b 1")
        self.assertEqual(caught.exception.node, 1)
        with self.assertRaises(NoEnd) as caught:
            rows_of("choose a 1", "arm", "stop", "arm", "loop", "do b 1", "close", "close")
        self.assertEqual(caught.exception.node, 1)
        with self.assertRaises(NoEnd) as caught:
            rows_of("loop", "do a 1", "close")
        self.assertEqual(caught.exception.node, 0)

    def test_against_lines(self):
        faults = {BareLoop: 0, BadStart: 0, None: 0}
        for tree in random_trees(1500):
            fault, number = fault_of_lines(show(tree))
            faults[fault] += 1
            try:
                graph_of(tree)
                self.assertIsNone(fault)
            except (BadStart, BareLoop) as error:
                self.assertEqual(type(error), fault)
                self.assertEqual(getattr(error, "statement", None), number)
            except (Unreachable, NoEnd):
                self.assertIsNone(fault)
        self.assertGreater(min(faults.values()), 50)

    def test_long_texts(self):
        lines = ["choose a 1"] + [f"mark {name_of(node)}" for node in range(690)]
        lines[1:1] = ["arm", "stop", "arm", "close"]
        self.assertEqual(rows_of(*lines, "do b 1"), [("a", 1, (END, 1)), ("b", 1, (END,))])
        self.bare(2, *lines, "loop", "close")


class CanonicalTreeTest(unittest.TestCase):
    def test_names(self):
        names = [name_of(node) for node in (0, 1, 25, 26, 27, 52, 675, 676, 702)]
        self.assertEqual(names, ["a", "b", "z", "ba", "bb", "ca", "zz", "baa", "bba"])
        self.assertEqual(len({name_of(node) for node in range(2000)}), 2000)

    def test_tree(self):
        graph = Graph([("go", 3, (1,)), ("on", 999999999999, (0, END, 2)), ("off", 1, (END,))])
        self.assertEqual(tree_of(graph), (
            ("mark", "a"), ("do", "go", 3), ("jump", "b"),
            ("mark", "b"),
            ("choose", "on", 999999999999, ((("jump", "a"),), (("stop",),), (("jump", "c"),))),
            ("mark", "c"), ("do", "off", 1), ("stop",),
        ))

    def test_end_as_the_one_successor(self):
        self.assertEqual(tree_of(Graph([("a", 1, (END,))])), (("mark", "a"), ("do", "a", 1), ("stop",)))
        self.assertEqual(tree_of(Graph([("a", 1, (END, END))])),
                         (("mark", "a"), ("choose", "a", 1, ((("stop",),), (("stop",),)))))

    def check_same_rows(self, graph):
        tree = tree_of(graph)
        self.assertEqual(read(show(tree)), tree)
        self.assertEqual(graph_of(tree).rows(), graph.rows())

    def test_the_same_rows_again(self):
        for graph in random_graphs(150):
            self.check_same_rows(graph)
        for _, graph in trees_with_graphs(100):
            self.check_same_rows(graph)

    def test_names_of_several_letters(self):
        size = 400
        rows = [("a", node + 1, (node + 1, 0)) for node in range(size - 1)] + [("z", 1, (END,))]
        graph = Graph(rows)
        self.assertEqual(tree_of(graph)[2 * 26], ("mark", "ba"))
        self.check_same_rows(graph)


if __name__ == "__main__":
    unittest.main()
