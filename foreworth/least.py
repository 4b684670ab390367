"""Least bills and least schedules of teams, and what other schedules lose."""

from foreworth.errors import Incomplete
from foreworth.fronts import least_row
from foreworth.laying import least_laying, union_beats
from foreworth.parts import Parts
from foreworth.runs import price_of
from foreworth.schedules import is_complete


def stretches(graph, run):
    """The list of the stretches of a run, pairs of a component and a list of nodes."""
    return Parts(graph).stretches(run)


def least_by_component(graph, runs):
    """The list of the least bills of a team in the components."""
    return [bill for bill, _ in least_parts(graph, Parts(graph), runs)]


def least(graph, runs):
    """The least bill of a team, and its least schedule."""
    found = least_parts(graph, Parts(graph), runs)
    bill = sum([part[0] for part in found])
    return (bill, [node for part in found for node in part[1]])


def loss(graph, runs, schedule):
    """How much dearer a complete schedule is than the least one."""
    return sum(loss_by_component(graph, runs, schedule))


def loss_by_component(graph, runs, schedule):
    """The list of the losses of a complete schedule in the components."""
    if not is_complete(runs, schedule):
        raise Incomplete()
    parts = Parts(graph)
    paid = [0 for nodes in parts.groups]
    for node in schedule:
        paid[parts.owner[node]] += graph.price(node)
    found = least_parts(graph, parts, runs)
    return [bill - part[0] for bill, part in zip(paid, found)]


def least_parts(graph, parts, runs):
    """For each component the pair of the least bill of a team there and its beats."""
    found = []
    for component, visits in enumerate(parts.visits(runs)):
        kind = parts.kinds[component]
        if not visits:
            found.append((0, []))
        elif kind == "ring":
            stays = [parts.stay(nodes) for nodes in visits]
            found.append(least_in_ring(parts.rings[component], stays))
        elif kind == "wild":
            found.append(least_in_wild(graph, visits))
        else:
            nodes = parts.groups[component]
            found.append((price_of(graph, nodes), list(nodes)))
    return found


def least_in_ring(ring, stays):
    """The least bill of some stays in a ring and its beats."""
    bill, start = least_laying(ring, stays)
    return (bill, [ring.nodes[place] for place in union_beats(ring, stays, start)])


def least_in_wild(graph, visits):
    """The least bill of some stretches in a wild component and its beats."""
    distinct = {tuple(nodes): True for nodes in visits}
    prices = [row[1] for row in graph]
    return least_row(prices, [list(nodes) for nodes in distinct])
