"""A helper that knows all runs of a team, and says one word about them."""

from foreworth.errors import BadWord
from foreworth.laying import least_laying
from foreworth.parts import tame_parts
from foreworth.routes import met_by_component, shortened


def word_count(graph, routes):
    """The number of words for teams with these routes."""
    return count_words(met_by_component(tame_parts(graph), routes))


def word_of(graph, runs):
    """The word of a team."""
    parts = tame_parts(graph)
    visits = parts.visits(runs)
    word = 0
    unit = 1
    for component, doors in enumerate(met_by_component(parts, runs)):
        if doors:
            stays = [parts.stay(nodes) for nodes in visits[component]]
            _, start = least_laying(parts.rings[component], stays)
            word += unit * doors.index(start)
            unit = unit * len(doors)
    return word


def word_doors(graph, routes, word):
    """The list of the doors of a word, one node for each ring met."""
    return list(told_nodes(tame_parts(graph), routes, word).values())


def word_team(graph, routes, word):
    """The team of a word: its routes, where one lane of each ring met goes round longer."""
    parts = tame_parts(graph)
    told = told_nodes(parts, routes, word)
    plain = [shortened(parts, run) for run in routes]
    greatest = [max([len(nodes) for nodes in visits], default=0) for visits in parts.visits(plain)]
    held = {}
    team = []
    for route in plain:
        run = []
        for component, nodes in parts.stretches(route):
            if component not in held and told.get(component) == nodes[0]:
                held[component] = True
                size = parts.rings[component].size
                length = length_from(size + greatest[component], len(nodes), size)
                run.extend(parts.going_round(nodes[0], length))
            else:
                run.extend(nodes)
        team.append(run)
    return team


def length_from(least, length, size):
    """The least length from `least` on that equals the given one modulo the size."""
    return least + (length - least) % size


def count_words(found):
    """The product of the numbers of doors met, where any are."""
    many = 1
    for doors in found:
        if doors:
            many = many * len(doors)
    return many


def told_nodes(parts, routes, word):
    """A dict from each ring met, in order, to the node of the door that the word tells.

    The rings are told by the indexes of their components. It raises BadWord.
    """
    found = met_by_component(parts, routes)
    if not 0 <= word < count_words(found):
        raise BadWord()
    told = {}
    rest = word
    for component, doors in enumerate(found):
        if doors:
            told[component] = parts.rings[component].nodes[doors[rest % len(doors)]]
            rest = rest // len(doors)
    return told
