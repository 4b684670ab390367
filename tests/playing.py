"""Plays of policies, made with a machine, to test what the policies do."""

from foreworth.graph import END
from foreworth.machine import Machine


def played(graph, runs, policy, sight=None):
    """The schedule of a play; each beat must move a lane."""
    machine = Machine(graph, runs)
    while not machine.over:
        shown = None
        if sight is not None:
            shown = [run[done + 1:done + 1 + sight] for run, done in zip(runs, machine.done())]
        node = policy.pick(machine.standing(), shown=shown)
        assert node != END and machine.beat(node), node
    return machine.schedule()


class Listening:
    """A policy that writes down what it is asked, and spoils the lists that it is passed."""

    def __init__(self, policy):
        self.policy = policy
        self.asked = []

    def pick(self, standing, *, shown=None):
        told = None if shown is None else [list(ahead) for ahead in shown]
        self.asked.append((list(standing), told))
        node = self.policy.pick(standing, shown=shown)
        standing[:] = [7, 7]
        if shown is not None:
            for ahead in shown:
                ahead.append(3)
            shown.clear()
        return node


def random_beats(adversary, source, *, leaving=True):
    """Beat an adversary until it is over, by chance, also with lists of lanes."""
    while not adversary.over:
        beat_by_chance([adversary], source, leaving)


def beat_by_chance(adversaries, source, leaving=True):
    """Make the same beat on adversaries that stand alike, and tell which lanes moved."""
    standing = adversaries[0].standing()
    node = source.choice([place for place in standing if place != END])
    there = [lane for lane, place in enumerate(standing) if place == node]
    lanes = None
    if leaving and source.randint(0, 2) == 0:
        lanes = source.choices(there, k=source.randint(1, 3))
    return [adversary.beat(node, lanes=lanes) for adversary in adversaries]
