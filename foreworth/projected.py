"""Projected policies: a policy of a cover, played on the graph below it."""

from foreworth.adversary import RingAdversary
from foreworth.covers import extra
from foreworth.duel import duel
from foreworth.rounds import BehindGap
from foreworth.routes import full_routes


class Projected:
    """Plays a policy of the graph `top` on the graph `bottom` that it covers."""

    def __init__(self, top, bottom, mapping, policy):
        self._top = top
        self._bottom = bottom
        self._mapping = list(mapping)
        self._policy = policy
        self._named = None
        self._stood = None
        # For each lane: the nodes of its lift, up to the one above the node at which it
        # stood, how many of these there are, and how many it has executed in the cover.
        self._lifts = []
        self._known = []
        self._moved = []

    def pick(self, standing, *, shown=None):
        """The node of the next beat."""
        lifts = self._lifts_to(standing)
        moved = self._moved or [0 for nodes in lifts]
        named = self._named
        behind = True
        while behind:
            moved = [done + 1 if nodes[done] == named else done
                     for nodes, done in zip(lifts, moved)]
            places = [nodes[done] for nodes, done in zip(lifts, moved)]
            named = self._policy.pick(list(places), shown=None)
            there = [lane for lane, place in enumerate(places) if place == named]
            behind = len(there) > 0 and all([moved[lane] + 1 < len(lifts[lane]) for lane in there])
        self._keep(standing, lifts, moved, named)
        return named if self._named is None else self._mapping[named]

    def _lifts_to(self, standing):
        """The lifts of the lanes, of which those that the last beat moved go on."""
        if self._stood is None:
            return [[0] for node in standing]
        for lane, node in enumerate(standing):
            nodes = self._lifts[lane]
            # An ask at which the policy failed may have left more behind.
            del nodes[self._known[lane]:]
            before = self._stood[lane]
            if self._named is not None and before == self._mapping[self._named]:
                way = self._bottom.successors(before).index(node)
                nodes.append(self._top.successors(nodes[-1])[way])
        return list(self._lifts)

    def _keep(self, standing, lifts, moved, named):
        """Remember what was asked and what was named, if that is a node."""
        self._stood = list(standing)
        self._lifts = lifts
        self._known = [len(nodes) for nodes in lifts]
        self._moved = moved
        self._named = named if 0 <= named < self._top.size else None


def check_cover(top, bottom, mapping):
    """A team whose least bill is dearer in a cover, and by how much."""
    policy = Projected(top, bottom, mapping, BehindGap(top))
    adversary = RingAdversary(bottom, full_routes(bottom))
    runs, _ = duel(adversary, policy)
    return (runs, extra(top, bottom, runs))
