"""Plays: a policy names the beats of a team."""

from foreworth.errors import NotStanding
from foreworth.graph import END
from foreworth.machine import Machine


def play(graph, runs, policy, *, sight=None):
    """The schedule that a policy makes for a team, asked before each beat."""
    # The policy may change the very lists that were passed here.
    team = [list(run) for run in runs]
    machine = Machine(graph, team)
    while not machine.over:
        shown = shown_of(team, machine.done(), sight)
        node = policy.pick(machine.standing(), shown=shown)
        if node == END or not machine.at(node):
            raise NotStanding(node)
        machine.beat(node)
    return machine.schedule()


def shown_of(team, done, sight):
    """What a policy with that sight is shown of each lane, behind its node."""
    if sight is None:
        return None
    return [run[many + 1:many + 1 + sight] for run, many in zip(team, done)]
