"""Plays of policies, made with a machine, to test what the policies do."""

from foreworth.graph import END
from foreworth.machine import Machine


def played(graph, runs, policy, sight=None):
    """The schedule of a play; each beat must move a lane."""
    machine = Machine(graph, runs)
    while not machine.over:
        shown = None
        if sight is not None:
            shown = [run[done + 1:done + 1 + sight] for run, done in zip(runs, machine.done())]
        node = policy.pick(machine.standing(), shown=shown)
        assert node != END and machine.beat(node), node
    return machine.schedule()
