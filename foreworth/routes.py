"""Routes: runs without their rounds, the doors they meet and what they cost."""

from foreworth.graph import END
from foreworth.parts import Parts, tame_parts
from foreworth.paths import shortest_path


def route_of(graph, run):
    """The route of a run."""
    return shortened(Parts(graph), run)


def doors_met(graph, runs):
    """The list with, for each ring, the list of the doors that a team meets."""
    parts = Parts(graph)
    found = met_by_component(parts, runs)
    return [doors for doors, ring in zip(found, parts.rings) if ring is not None]


def route_cost(graph, runs):
    """The route cost of a team."""
    parts = tame_parts(graph)
    total = 0
    for component, doors in enumerate(met_by_component(parts, runs)):
        if doors:
            total += parts.rings[component].cost(doors=tuple(doors))
    return total


def full_routes(graph):
    """The full routes of a graph: one for each door of the rings with several doors."""
    parts = tame_parts(graph)
    routes = []
    for ring in parts.rings:
        if ring is not None and len(ring.doors) > 1:
            for door in ring.doors:
                routes.append(route_through(graph, ring, ring.nodes[door]))
    return routes or [shortest_path(graph, 0, END)]


def route_through(graph, ring, door):
    """The route that comes to a ring at the node of a door, and goes to END from there."""
    others = tuple([node for node in ring.nodes if node != door])
    way = shortest_path(graph, 0, door, avoid=others)
    return way[:-1] + shortest_path(graph, door, END)


def shortened(parts, run):
    """The route of a run, where the parts of its graph are known."""
    route = []
    for component, nodes in parts.stretches(run):
        ring = parts.rings[component]
        kept = len(nodes)
        if ring is not None:
            kept = (len(nodes) - 1) % ring.size + 1
        route.extend(nodes[:kept])
    return route


def met_by_component(parts, runs):
    """The list with, for each component, the list of the doors that a team meets there.

    It is empty for components that are no rings.
    """
    found = []
    for ring, visits in zip(parts.rings, parts.visits(runs)):
        if ring is None:
            found.append([])
        else:
            found.append(sorted({parts.position[nodes[0]] for nodes in visits}))
    return found
