"""Folding graphs: one node for all that are alike."""

from foreworth.graph import END, Graph


def fold(graph):
    """The folded graph, and the mapping of the graph to it."""
    classes = alike_classes(graph)
    nodes = first_nodes(graph, classes)
    number = {classes[node]: place for place, node in enumerate(nodes)}
    mapping = [number[name] for name in classes]
    rows = [(graph.word(node), graph.price(node), places_of(graph.successors(node), mapping))
            for node in nodes]
    return (Graph(rows), mapping)


def alike_classes(graph):
    """The list with a number for each node, the same one for nodes that are alike."""
    many = -1
    classes = numbered([(row[0], row[1], len(row[2])) for row in graph])
    # Nodes of one class that are parted only further on come apart step by step.
    while many < max(classes):
        many = max(classes)
        classes = numbered([(name, places_of(row[2], classes))
                            for name, row in zip(classes, graph)])
    return classes


def numbered(values):
    """The list of numbers of the values, from 0 on; the same ones for equal values."""
    numbers = {}
    for value in values:
        if value not in numbers:
            numbers[value] = len(numbers)
    return [numbers[value] for value in values]


def places_of(targets, places):
    """The successors, with the place of each node in its stead."""
    return tuple([END if target == END else places[target] for target in targets])


def first_nodes(graph, classes):
    """The node of each class that is met first, in the order of meeting them."""
    nodes = [0]
    met = {classes[0]: True}
    place = 0
    while place < len(nodes):
        for target in graph.successors(nodes[place]):
            if target != END and classes[target] not in met:
                met[classes[target]] = True
                nodes.append(target)
        place += 1
    return nodes


def difference(first, second):
    """The least shortest list of indexes that parts the nodes 0 of two graphs, or None."""
    came = {(0, 0): None}
    pairs = [(0, 0)]
    place = 0
    while place < len(pairs):
        node, other = pairs[place]
        if part_at_once(first, second, node, other):
            return indexes_to(came, pairs[place])
        if node != END:
            targets = first.successors(node)
            for index, pair in enumerate(zip(targets, second.successors(other))):
                if pair not in came:
                    came[pair] = (pairs[place], index)
                    pairs.append(pair)
        place += 1
    return None


def part_at_once(first, second, node, other):
    """Tell whether two nodes, or END, differ without following their successors."""
    if node == END or other == END:
        return node != other
    if len(first.successors(node)) != len(second.successors(other)):
        return True
    return (first.word(node), first.price(node)) != (second.word(other), second.price(other))


def indexes_to(came, pair):
    """The indexes that led to a pair, told by the pair before it and the last index."""
    indexes = []
    while came[pair] is not None:
        pair, index = came[pair]
        indexes.append(index)
    return indexes[::-1]
