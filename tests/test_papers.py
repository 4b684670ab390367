"""Points 40 to 42: certificates of the worth of foresight."""

import unittest
from copy import deepcopy
from random import Random

from foreworth.components import component_of, components, kinds
from foreworth.graph import END, Graph
from foreworth.papers import check_paper, worth_paper
from foreworth.rings import rings
from foreworth.worth import worth
from tests.samples import THREE_RINGS, TWO_DOORS, WILD, random_graphs, tame_graphs
from tests.slow import all_paths

# Nodes 1 and 2 make a ring with doors at both; node 3 is single.
NUMBERS = [0, 1, 1, 2]
ENTRY = (1, [2, 1], [2, 1], 4)


def with_number(graph, numbers, number):
    return [node for node in range(graph.size) if numbers[node] == number]


def slow_finite(graph, numbers, entries, value):
    """Point 40, condition by condition."""
    nodes_of = range(graph.size)
    if len(numbers) != graph.size:
        return False
    edges = [(node, target) for node in nodes_of for target in graph.successors(node)
             if target != END]
    if any(numbers[target] < numbers[node] for node, target in edges):
        return False
    firsts = [entry[0] for entry in entries]
    if sorted(firsts) != sorted(set(firsts)):
        return False
    for number, nodes, doors, gap in entries:
        if not nodes or sorted(nodes) != with_number(graph, numbers, number):
            return False
        for place, node in enumerate(nodes):
            inner = {target for one, target in edges if one == node and numbers[target] == number}
            if inner != {nodes[(place + 1) % len(nodes)]}:
                return False
        real = [node for node in nodes if node == 0 or any(
            target == node and numbers[one] != number for one, target in edges)]
        if doors != real or nodes[0] not in doors:
            return False
        places = [nodes.index(door) for door in doors] + [len(nodes)]
        gaps = [sum(graph.price(node) for node in nodes[low:high])
                for low, high in zip(places, places[1:])]
        if gap != gaps[-1] or any(other > gap for other in gaps):
            return False
    for number in set(numbers) - set(firsts):
        alone = with_number(graph, numbers, number)
        if len(alone) > 1 or (alone[0], alone[0]) in edges:
            return False
    return value == sum(sum(graph.price(node) for node in entry[1]) - entry[3] for entry in entries)


def slow_endless(graph, first, second):
    """Point 41, condition by condition."""
    if not first or not second or first[-1] != second[-1]:
        return False
    node = first[-1]
    if not 0 <= node < graph.size or node in first[:-1] or node in second[:-1]:
        return False
    if first[0] == second[0]:
        return False
    for trail in (first, second):
        for one, target in zip([node, *trail], trail):
            if not 0 <= one < graph.size or not 0 <= target < graph.size:
                return False
            if target not in graph.successors(one):
                return False
    return True


def slow_check(graph, paper):
    return (slow_finite if paper[0] == "finite" else slow_endless)(graph, *paper[1:])


class OwnPapersTest(unittest.TestCase):
    def test_finite(self):
        self.assertEqual(worth_paper(Graph(TWO_DOORS)), ("finite", NUMBERS, [ENTRY], 3))
        entries = [(0, [0, 1], [0], 5), (1, [2, 3, 4], [2, 3, 4], 6), (3, [6], [6], 7)]
        self.assertEqual(worth_paper(Graph(THREE_RINGS)),
                         ("finite", [0, 0, 1, 1, 1, 2, 3], entries, 5))
        self.assertEqual(worth_paper(Graph([("a", 1, (END,))])), ("finite", [0], [], 0))
        self.assertEqual(worth_paper(Graph([("a", 5, (0, 0, END))])),
                         ("finite", [0], [(0, [0], [0], 5)], 0))

    def test_endless(self):
        self.assertEqual(worth_paper(Graph(WILD)), ("endless", [2, 1], [3, 1]))
        # A loop of the node itself, and the first of two wild components.
        graph = Graph([("a", 1, (0, 2)), ("b", 1, (1, 2, END)), ("c", 1, (3, 1)), ("d", 1, (3, 1, 2))])
        self.assertEqual(kinds(graph), ["ring", "wild"])
        self.assertEqual(worth_paper(graph), ("endless", [1], [2, 1]))
        # Three ways on: the least two count. Node 1 has one internal successor alone.
        graph = Graph([("a", 1, (1,)), ("b", 1, (3,)), ("c", 1, (1,)), ("d", 1, (5, 4, 2, END)),
                       ("e", 1, (2,)), ("f", 1, (1,))])
        self.assertEqual(worth_paper(graph), ("endless", [2, 1, 3], [4, 2, 1, 3]))
        # A successor that occurs twice is one distinct successor.
        graph = Graph([("a", 1, (1, 1)), ("b", 1, (0, 2)), ("c", 1, (0, 1, END))])
        self.assertEqual(worth_paper(graph), ("endless", [0, 1], [2, 1]))

    def test_own_papers(self):
        for graph in random_graphs(200) + tame_graphs(200, most=10):
            paper = worth_paper(graph)
            self.assertIs(check_paper(graph, paper), True)
            self.assertIs(slow_check(graph, paper), True)
            if paper[0] == "finite":
                self.check_finite(graph, paper)
            else:
                self.check_endless(graph, paper)

    def check_finite(self, graph, paper):
        self.assertEqual(paper[1], component_of(graph))
        self.assertEqual(paper[3], worth(graph))
        self.assertEqual([entry[0] for entry in paper[2]],
                         [at for at, kind in enumerate(kinds(graph)) if kind == "ring"])
        self.assertEqual([entry[1][0] for entry in paper[2]],
                         [ring.nodes[ring.start()] for ring in rings(graph)])

    def check_endless(self, graph, paper):
        self.assertIsNone(worth(graph))
        wild = next(nodes for nodes, kind in zip(components(graph), kinds(graph)) if kind == "wild")
        ways = {node: sorted(set(graph.successors(node)) & set(wild)) for node in wild}
        node = next(node for node in wild if len(ways[node]) > 1)
        outside = [other for other in range(graph.size) if other not in wild]
        paths = [min(all_paths(graph, first, node, outside), key=lambda path: (len(path), path))
                 for first in ways[node][:2]]
        self.assertEqual(paper, ("endless", paths[0], paths[1]))

    def test_lists_are_new(self):
        graph = Graph(TWO_DOORS)
        paper = worth_paper(graph)
        paper[1].clear()
        paper[2][0][1].clear()
        paper[2][0][2].clear()
        paper[2].clear()
        self.assertEqual(worth_paper(graph), ("finite", NUMBERS, [ENTRY], 3))
        graph = Graph(WILD)
        worth_paper(graph)[1].clear()
        worth_paper(graph)[2].clear()
        paper = ("endless", [2, 1], [3, 1])
        self.assertEqual(worth_paper(graph), paper)
        check_paper(graph, paper)
        self.assertEqual(paper, ("endless", [2, 1], [3, 1]))


class FiniteTest(unittest.TestCase):
    def check(self, answer, numbers=None, entry=ENTRY, entries=None, value=3, rows=None):
        paper = ("finite", NUMBERS if numbers is None else numbers,
                 [entry] if entries is None else entries, value)
        kept = deepcopy(paper)
        self.assertIs(check_paper(Graph(rows or TWO_DOORS), paper), answer, paper)
        self.assertEqual(paper, kept)

    def test_accepted(self):
        self.check(True)
        # Other numbers in the same order, and other starts with the same gap.
        self.check(True, numbers=[-7, -1, -1, 10 ** 20], entry=(-1, [2, 1], [2, 1], 4))
        rows = [("a", 1, (1, 2)), ("b", 3, (2, END)), ("c", 3, (1, 3)), ("d", 2, (END,))]
        self.check(True, entry=(1, [2, 1], [2, 1], 3), rows=rows)
        self.check(True, entry=(1, [1, 2], [1, 2], 3), rows=rows)

    def test_numbers(self):
        for numbers in ([], [0, 1, 1], [0, 1, 1, 2, 3], [2, 1, 1, 0], [0, 1, 1, 0], [1, 1, 1, 2],
                        [0, 1, 2, 3], [0, 2, 1, 2], [0, 1, 1, 1]):
            self.check(False, numbers=numbers)
        # An edge within a number is no fault, but a single node has its number alone.
        self.check(False, numbers=[0, 1, 1, 1], entry=(1, [2, 1], [2, 1], 4))
        rows = [("a", 1, (1,)), ("b", 1, (END,))]
        self.check(True, numbers=[0, 1], entries=[], value=0, rows=rows)
        self.check(False, numbers=[0, 0], entries=[], value=0, rows=rows)
        self.check(False, numbers=[0], entries=[], value=0, rows=[("a", 1, (0, END))])
        self.check(True, numbers=[-1], entries=[(-1, [0], [0], 1)], value=0, rows=[("a", 1, (0, END))])

    def test_entries(self):
        self.check(False, entries=[], value=0)
        self.check(False, entries=[])
        self.check(False, entries=[ENTRY, ENTRY], value=6)
        self.check(False, entries=[ENTRY, ENTRY])
        self.check(False, entries=[ENTRY, (5, [], [], 0)])
        self.check(False, entries=[ENTRY, (0, [0], [0], 1)])
        self.check(False, entries=[ENTRY, (2, [3], [3], 2)])
        self.check(False, entries=[ENTRY, (5, [7], [7], 0)])

    def test_nodes(self):
        for nodes in ([], [2], [2, 1, 2], [2, 1, 1], [2, -1], [-1, -2], [2, 4], [2, 99], [2, 1, 3],
                      [0, 1], [2, 1, -1], [1, 2]):
            self.check(False, entry=(1, nodes, [2, 1], 4))
            self.check(False, entry=(1, nodes, nodes, 4))
        # The order of going round, in a ring of three nodes.
        rows = [("a", 1, (1,)), ("b", 1, (3, END)), ("c", 1, (1,)), ("d", 1, (2,))]
        numbers = [0, 1, 1, 1]
        self.check(True, numbers=numbers, entry=(1, [1, 3, 2], [1], 3), value=0, rows=rows)
        self.check(False, numbers=numbers, entry=(1, [1, 2, 3], [1], 3), value=0, rows=rows)
        self.check(False, numbers=numbers, entry=(1, [3, 2, 1], [1], 1), value=2, rows=rows)

    def test_two_successors_with_the_number(self):
        rows = [("a", 1, (1,)), ("b", 2, (2, 1, END)), ("c", 3, (1,))]
        self.check(False, numbers=[0, 1, 1], entry=(1, [1, 2], [1], 5), value=0, rows=rows)
        rows = [("a", 1, (1,)), ("b", 2, (2, 2, END)), ("c", 3, (1, 1))]
        self.check(True, numbers=[0, 1, 1], entry=(1, [1, 2], [1], 5), value=0, rows=rows)

    def test_doors(self):
        for doors in ([], [2], [1], [1, 2], [2, 1, 1], [2, 2, 1], [2, 1, 3], [2, -1], [2, 1, -1],
                      [0, 1], [2, 99]):
            self.check(False, entry=(1, [2, 1], doors, 4))
        # The first node must be a door.
        rows = [("a", 1, (1,)), ("b", 2, (2, END)), ("c", 3, (1,))]
        self.check(True, numbers=[0, 1, 1], entry=(1, [1, 2], [1], 5), value=0, rows=rows)
        self.check(False, numbers=[0, 1, 1], entry=(1, [2, 1], [1], 5), value=0, rows=rows)
        self.check(False, numbers=[0, 1, 1], entry=(1, [2, 1], [1], 2), value=3, rows=rows)
        # Node 0 is a door.
        rows = [("a", 2, (1,)), ("b", 3, (0, END))]
        self.check(True, numbers=[4, 4], entry=(4, [0, 1], [0], 5), value=0, rows=rows)
        self.check(False, numbers=[4, 4], entry=(4, [0, 1], [], 5), value=0, rows=rows)

    def test_gap(self):
        for gap in (3, 5, 0, -1, 7):
            self.check(False, entry=(1, [2, 1], [2, 1], gap))
            self.check(False, entry=(1, [2, 1], [2, 1], gap), value=7 - gap)
        # The gap at the end of these nodes is 3, and not the greatest.
        self.check(False, entry=(1, [1, 2], [1, 2], 3), value=4)
        self.check(False, entry=(1, [1, 2], [1, 2], 4), value=3)

    def test_value(self):
        for value in (2, 4, 0, -1, 7):
            self.check(False, value=value)


class EndlessTest(unittest.TestCase):
    def check(self, first, second, answer):
        paper = ("endless", first, second)
        kept = deepcopy(paper)
        self.assertIs(check_paper(Graph(WILD), paper), answer, paper)
        self.assertEqual(paper, kept)

    def test_accepted(self):
        self.check([2, 1], [3, 1], True)
        self.check([3, 1], [2, 1], True)
        rows = [("a", 1, (0, 1)), ("b", 1, (0, END))]
        self.assertIs(check_paper(Graph(rows), ("endless", [0], [1, 0])), True)

    def test_empty_lists(self):
        self.check([], [], False)
        self.check([], [3, 1], False)
        self.check([2, 1], [], False)

    def test_ends(self):
        self.check([2, 1], [3], False)
        self.check([2, 1, 3], [3, 1], False)
        self.check([2], [3], False)

    def test_the_node_does_not_occur_earlier(self):
        self.check([2, 1, 2, 1], [3, 1], False)
        self.check([2, 1], [3, 1, 3, 1], False)

    def test_first_entries_differ(self):
        self.check([2, 1], [2, 1], False)
        self.check([3, 1], [3, 1], False)
        # Both lists are loops through node 3, but it has one way on in the component.
        self.check([1, 3], [1, 2, 1, 3], False)

    def test_steps(self):
        self.check([1], [3, 1], False)
        self.check([0, 1], [3, 1], False)
        self.check([2, 3, 1], [3, 1], False)
        self.check([2, 1], [3, 2, 1], False)
        self.check([2, 0, 1], [3, 1], False)

    def test_numbers_that_are_no_nodes(self):
        for wrong in (-1, -2, 5, 99, -5, -4):
            self.check([wrong], [3, wrong], False)
            self.check([wrong, 1], [3, 1], False)
            self.check([2, wrong, 1], [3, 1], False)
            self.check([2, 1], [3, wrong], False)
            self.check([2, wrong], [3, wrong], False)
            self.check([wrong], [wrong], False)
        rows = [("a", 1, (1, END)), ("b", 1, (0, 1, END))]
        self.assertIs(check_paper(Graph(rows), ("endless", [0, -1], [1, -1])), False)
        self.assertIs(check_paper(Graph(rows), ("endless", [-1, 1], [1])), False)

    def test_other_forms(self):
        self.assertIs(check_paper(Graph(WILD), ("finite", [0, 1, 1, 1, 2], [], 0)), False)
        self.assertIs(check_paper(Graph(TWO_DOORS), ("endless", [2, 1], [2, 1])), False)
        # Neither of the two forms.
        for paper in ((), ("finite",), ("finite", NUMBERS, [ENTRY]), ("endless", [2, 1]),
                      ("endless", [2, 1], [3, 1], 0), ("worth", [2, 1], [3, 1]),
                      ("worth", NUMBERS, [ENTRY], 3)):
            self.assertIs(check_paper(Graph(WILD), paper), False)
            self.assertIs(check_paper(Graph(TWO_DOORS), paper), False)


class MutatedPapersTest(unittest.TestCase):
    def mutate(self, source, size, paper):
        """Change one number of one list of a certificate, or its length."""
        if paper[0] == "finite" and source.randint(0, 9) == 0:
            return (*paper[:3], paper[3] + source.choice([-1, 1]))
        rows = [paper[1], paper[2]]
        if paper[0] == "finite":
            rows = [paper[1]] + [part for entry in paper[2] for part in entry[1:3]]
            if paper[2] and source.randint(0, 5) == 0:
                at = source.randint(0, len(paper[2]) - 1)
                entry = list(paper[2][at])
                entry[source.choice([0, 3])] += source.choice([-1, 1])
                paper[2][at] = tuple(entry)
        row = source.choice(rows)
        way = source.randint(0, 4)
        if way == 0:
            row.insert(source.randint(0, len(row)), source.randint(-2, size))
        elif row and way == 1:
            row.pop(source.randint(0, len(row) - 1))
        elif row and way == 2:
            row[source.randint(0, len(row) - 1)] = source.randint(-2, size)
        elif way == 3:
            row.append(row.pop(0) if row else 0)
        return paper

    def test_against_slow_checks(self):
        source = Random(31)
        told = {True: 0, False: 0}
        for graph in random_graphs(150) + tame_graphs(150, most=8):
            for _ in range(6):
                paper = self.mutate(source, graph.size, worth_paper(graph))
                answer = slow_check(graph, paper)
                told[answer] += 1
                self.assertIs(check_paper(graph, paper), answer, (graph.rows(), paper))
                if answer:
                    self.assertEqual(paper[0] == "endless", worth(graph) is None)
                    if paper[0] == "finite":
                        self.assertEqual(paper[3], worth(graph))
        self.assertGreater(min(told.values()), 100)


if __name__ == "__main__":
    unittest.main()
