"""Runs of graphs, their logs, prices and choices, and teams of runs."""

from foreworth.choosing import Chooser
from foreworth.errors import BadRun
from foreworth.graph import END


def run_of(graph, choices, *, limit=400):
    """The nodes that a lane with these choices executes, and whether it has ended."""
    chooser = Chooser(choices)
    nodes = []
    node = 0
    while node != END and len(nodes) < limit:
        nodes.append(node)
        successors = graph.successors(node)
        node = successors[chooser.take(len(successors))]
    return nodes, node == END


def log_of(graph, nodes):
    """The log of a list of nodes."""
    return [(graph.word(node), graph.price(node), len(graph.successors(node))) for node in nodes]


def price_of(graph, nodes):
    """The sum of the prices of a list of nodes."""
    return sum([graph.price(node) for node in nodes])


def check_team(graph, runs):
    """Raise BadRun for the first lane whose list of numbers is not a run."""
    for lane, run in enumerate(runs):
        place = fault_of(graph, run)
        if place is not None:
            raise BadRun(lane, place)


def fault_of(graph, run):
    """The place at which a list of numbers is not a run, or None if it is one."""
    if not run or run[0] != 0:
        return 0
    for place in range(1, len(run)):
        # END may be a successor, but it is no node of a run.
        if run[place] == END or run[place] not in graph.successors(run[place - 1]):
            return place
    return None if END in graph.successors(run[-1]) else len(run)


def choices_of(graph, run):
    """The list of the least choices that lead along the run."""
    following = [*run[1:], END]
    choices = []
    for node, target in zip(run, following):
        successors = graph.successors(node)
        if len(successors) > 1:
            choices.append(successors.index(target))
    return choices
