"""Blocks: nodes that always come one behind the other, made into one."""

from foreworth.graph import END, Graph, edges_from


def blocks(graph):
    """The block graph, and the list of the blocks, each a list of nodes."""
    glued = glued_nodes(graph)
    behind = {node: True for node in glued.values()}
    found = []
    for head in range(graph.size):
        if head not in behind:
            block = [head]
            while block[-1] in glued:
                block.append(glued[block[-1]])
            found.append(block)
    number = {block[0]: place for place, block in enumerate(found)}
    number[END] = END
    rows = []
    for block in found:
        targets = tuple([number[target] for target in graph.successors(block[-1])])
        rows.append((graph.word(block[0]), sum([graph.price(node) for node in block]), targets))
    return (Graph(rows), found)


def block_run(found, run):
    """The run of the block graph that a run becomes."""
    number = {block[0]: place for place, block in enumerate(found)}
    return [number[node] for node in run if node in number]


def glued_nodes(graph):
    """A dict from nodes to the node that is glued to them."""
    entries = [0 for row in graph]
    for targets in edges_from(graph):
        for target in targets:
            entries[target] += 1
    glued = {}
    for node, row in enumerate(graph):
        target = row[2][0]
        if len(row[2]) == 1 and target not in (0, END) and entries[target] == 1:
            glued[node] = target
    return glued
