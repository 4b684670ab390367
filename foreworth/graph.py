"""Graphs of nodes, the checks that each graph has passed, and their edges."""

from foreworth.errors import BadNode, NoEnd, Unreachable
from foreworth.words import is_word

END = -1


class Graph:
    """A program: nodes with words, prices and successors; node 0 is the entry."""

    def __init__(self, rows):
        kept = [(word, price, tuple(successors)) for word, price, successors in rows]
        check_rows(kept)
        self.size = len(kept)
        self._rows = kept

    def rows(self):
        """The rows of all nodes, in order."""
        return list(self._rows)

    def word(self, node):
        """The word of a node."""
        return self._rows[node][0]

    def price(self, node):
        """The price of a node."""
        return self._rows[node][1]

    def successors(self, node):
        """The successors of a node, as they stand in its row."""
        return self._rows[node][2]

    def __iter__(self):
        return iter(self._rows)


def check_rows(rows):
    """Raise the first error that applies if the rows make no graph."""
    if not rows:
        raise BadNode(0)
    for node, row in enumerate(rows):
        if not is_row(row, len(rows)):
            raise BadNode(node)
    reached = led_to([0], edges_from(rows))
    if False in reached:
        raise Unreachable(reached.index(False))
    last = [node for node, row in enumerate(rows) if END in row[2]]
    leading = led_to(last, edges_into(rows))
    if False in leading:
        raise NoEnd(leading.index(False))


def is_row(row, size):
    """Tell whether the row has its form in a graph of that size."""
    word, price, successors = row
    if not is_word(word) or price < 1 or not 1 <= len(successors) <= 4:
        return False
    return all(target == END or 0 <= target < size for target in successors)


def edges_from(rows):
    """The list with, for each node, its successors other than END."""
    return [[target for target in row[2] if target != END] for row in rows]


def edges_into(rows):
    """The list with, for each node, the nodes that have it as a successor."""
    before = [[] for row in rows]
    for node, targets in enumerate(edges_from(rows)):
        for target in targets:
            before[target].append(node)
    return before


def led_to(starts, edges):
    """The list that tells for each node whether the edges lead from a start to it."""
    met = [False] * len(edges)
    for node in starts:
        met[node] = True
    layer = starts
    while layer:
        following = []
        for node in list(layer):
            for target in edges[node]:
                if not met[target]:
                    met[target] = True
                    following.append(target)
        layer = following
    return met
