"""Duels: a policy against an adversary."""


def duel(adversary, policy):
    """The runs of an adversary and the schedule of the policy that played against it."""
    while not adversary.over:
        shown = adversary.shown() if adversary.sight > 0 else None
        adversary.beat(policy.pick(adversary.standing(), shown=shown))
    return (adversary.runs(), adversary.schedule())
