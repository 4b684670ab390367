"""Covers: graphs that look like another graph from everywhere."""

from foreworth.graph import END
from foreworth.least import least
from foreworth.runs import choices_of, run_of


def covers(top, bottom, mapping):
    """Tell whether the graph `top` covers the graph `bottom` by the mapping."""
    if len(mapping) != top.size or mapping[0] != 0:
        return False
    if any([not 0 <= node < bottom.size for node in mapping]):
        return False
    rows = bottom.rows()
    for (word, price, targets), node in zip(top, mapping):
        below = tuple([END if target == END else mapping[target] for target in targets])
        if rows[node] != (word, price, below):
            return False
    return True


def picture(mapping, run):
    """The run of the lower graph that is below a run of the upper one."""
    return [mapping[node] for node in run]


def lift(top, bottom, run):
    """The run of the graph `top` that goes the same ways as a run of `bottom`."""
    nodes, _ = run_of(top, choices_of(bottom, run), limit=len(run))
    return nodes


def extra(top, bottom, runs):
    """How much dearer the least bill of a team is if it is lifted."""
    above, _ = least(top, [lift(top, bottom, run) for run in runs])
    below, _ = least(bottom, runs)
    return above - below
