"""Slow adversaries, which follow points 65 to 69 word by word, to compare the program with.

They reckon everything anew from the routes, from what each lane has executed and from the
stays that are fixed, and keep no list of what is decided.
"""

from foreworth.components import component_of, components, kinds
from foreworth.graph import END
from foreworth.least import stretches
from foreworth.papers import worth_paper
from foreworth.paths import shortest_path
from foreworth.rings import ring_of
from foreworth.routes import doors_met, route_of


class SlowFoe:
    """What both adversaries have: lanes, of which `way` tells the beginnings of the runs."""

    def __init__(self, graph, lanes, sight):
        self.graph = graph
        self.sight = sight
        self.done = [0] * lanes
        self.bill = 0

    def seen(self, lane):
        """What is decided of a lane."""
        return self.way(lane, self.done[lane] + 1 + self.sight)

    def standing(self):
        return [(self.way(lane, done + 1)[done:] + [END])[0]
                for lane, done in enumerate(self.done)]

    def shown(self):
        return [self.seen(lane)[done + 1:] for lane, done in enumerate(self.done)]

    @property
    def over(self):
        return set(self.standing()) == {END}

    def beat(self, node, *, lanes=None):
        there = [lane for lane, place in enumerate(self.standing()) if place == node]
        moving = [lane for lane in there if lanes is None or lane in lanes]
        before = self.before_beat()
        for lane in moving:
            self.done[lane] += 1
        self.bill += self.graph.price(node)
        self.close(node, moving, before)
        return moving

    def runs(self):
        return [self.way(lane, done) for lane, done in enumerate(self.done)]


class SlowRings(SlowFoe):
    """Points 65 and 66."""

    def __init__(self, graph, routes, *, sight=0):
        SlowFoe.__init__(self, graph, len(routes), sight)
        self.owner = component_of(graph)
        self.legs = [stretches(graph, route_of(graph, route)) for route in routes]
        self.rings = {}
        groups = components(graph)
        places = [place for place, kind in enumerate(kinds(graph)) if kind == "ring"]
        for place, doors in zip(places, doors_met(graph, routes)):
            if doors:
                self.rings[place] = (ring_of(graph, groups[place]), doors)
        self.stays = {}
        self.holders = {}
        for component, (ring, doors) in self.rings.items():
            coming = [(lane, nodes) for lane, legs in enumerate(self.legs)
                      for place, nodes in legs if place == component]
            self.stays[component] = {lane: len(nodes) for lane, nodes in coming}
            self.holders[component] = {}
            for door in doors:
                lane = min(lane for lane, nodes in coming if nodes[0] == ring.nodes[door])
                self.holders[component][lane] = self.stays[component][lane]
                self.stays[component][lane] = None
        self.paid = {component: 0 for component in self.rings}
        for component in self.rings:
            self.close_ring(component, {lane: 0 for lane in self.holders[component]})

    def way(self, lane, many):
        """The first nodes of a run, up to so many of them."""
        nodes = []
        for component, leg in self.legs[lane]:
            stay = self.stays.get(component, {}).get(lane, len(leg))
            if component in self.rings:
                ring = self.rings[component][0]
                door = ring.nodes.index(leg[0])
                rest = many - len(nodes)
                nodes += [ring.nodes[(door + step) % ring.size]
                          for step in range(rest if stay is None else stay)]
            else:
                nodes += leg
            if len(nodes) >= many:
                break
        return nodes[:many]

    def decided(self, component, lane):
        """For how many nodes of a ring a holder is decided, as point 66 says it."""
        standing = self.standing()[lane]
        executed = [node for node in self.way(lane, self.done[lane])
                    if self.owner[node] == component]
        if standing != END and self.owner[standing] == component:
            return len(executed) + 1 + self.sight
        behind = self.way(lane, self.done[lane] + 1 + self.sight)[self.done[lane]:]
        coming = [place for place, node in enumerate(behind) if self.owner[node] == component]
        return max(0, self.sight - coming[0] + 1) if coming else 0

    def before_beat(self):
        return {component: {lane: self.decided(component, lane)
                            for lane in self.holders[component]}
                for component in self.rings if None in self.stays[component].values()}

    def close(self, node, moving, before):
        component = self.owner[node]
        if component in self.paid:
            self.paid[component] += self.graph.price(node)
        if component in before:
            self.close_ring(component, before[component])

    def spent(self, component, lane):
        return sum(self.graph.price(node) for node in self.way(lane, self.done[lane])
                   if self.owner[node] == component)

    def close_ring(self, component, decided):
        ring, doors = self.rings[component]
        holders = self.holders[component]
        spent = {lane: self.spent(component, lane) for lane in holders}
        if self.paid[component] - min(spent.values()) < ring.cost(doors=tuple(doors)):
            return
        staying = min(lane for lane in holders if spent[lane] == min(spent.values()))
        stays = self.stays[component]
        for lane in holders:
            if lane != staying:
                stays[lane] = self.fitting(1, decided[lane], holders[lane], ring.size)
        others = [stay for lane, stay in stays.items() if lane != staying]
        least = ring.size + max(others, default=0)
        stays[staying] = self.fitting(least, decided[staying], holders[staying], ring.size)

    def fitting(self, least, decided, length, size):
        stay = 1
        while stay < least or stay < decided or (stay - length) % size:
            stay += 1
        return stay


class SlowWild(SlowFoe):
    """Point 68."""

    def __init__(self, graph, target, *, sight=0):
        SlowFoe.__init__(self, graph, 2, sight)
        _, *self.loops = worth_paper(graph)
        self.target = target
        self.way_in = shortest_path(graph, 0, self.loops[0][-1])
        self.way_out = shortest_path(graph, self.loops[0][-1], END)[1:]
        self.fixed = None
        self.lone = [0, 0]

    def way(self, lane, many):
        nodes = self.way_in + self.loops[lane] * many if self.fixed is None else self.fixed[lane]
        return nodes[:many]

    def before_beat(self):
        return [done + 1 + self.sight for done in self.done]

    def close(self, node, moving, before):
        for lane in (0, 1):
            if moving == [lane]:
                self.lone[lane] += self.graph.price(node)
        for lane in (0, 1):
            if self.fixed is None and self.lone[lane] >= self.target:
                rounds = [[], []]
                for each in (0, 1):
                    while len(self.way_in + rounds[each]) < before[each]:
                        rounds[each] = rounds[each] + self.loops[each]
                runs = [self.way_in + rounds[each] for each in (0, 1)]
                runs[1 - lane] += rounds[lane]
                self.fixed = [run + self.way_out for run in runs]
