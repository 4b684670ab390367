"""Walking trees."""

from foreworth.choosing import Chooser
from foreworth.control import settle, steps_of
from foreworth.graph import END


def walk(tree, choices, *, limit=400):
    """The log of a lane that executes the tree, and whether the lane has ended."""
    steps = steps_of(tree)
    chooser = Chooser(choices)
    log = []
    place = settle(steps, 0)
    while place != END and len(log) < limit:
        statement, targets = steps[place]
        log.append((statement[1], statement[2], len(targets)))
        place = settle(steps, targets[chooser.take(len(targets))])
    return log, place == END
