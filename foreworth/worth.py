"""The worth of foresight of graphs."""

from foreworth.parts import Parts


def worth(graph):
    """The worth of foresight of a graph, or None if it is endless."""
    parts = Parts(graph)
    if parts.wild_nodes() is not None:
        return None
    return sum([ring.cost() for ring in parts.rings if ring is not None])


def is_worthless(graph):
    """Tell whether foresight is worthless for a graph."""
    parts = Parts(graph)
    if parts.wild_nodes() is not None:
        return False
    return all([len(ring.doors) == 1 for ring in parts.rings if ring is not None])
