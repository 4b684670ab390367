"""Where control goes in a tree: its statements by number, and what comes next."""

from foreworth.graph import END

NODES = ("do", "choose")


def steps_of(tree):
    """The list of the statements in the order of their lines, each with its targets.

    A step is a pair of a statement and the list of the places at which control may
    be next. A place is the number of a statement, or END for the end of the lane.
    """
    steps = []
    add_tree(steps, tree, END, None)
    marked = {}
    for number, (statement, _) in enumerate(steps):
        if statement[0] == "mark":
            marked[statement[1]] = number
    for statement, targets in steps:
        if statement[0] == "jump":
            targets.append(marked[statement[1]])
    return steps


def is_node(statement):
    """Tell whether a lane executes a node at the statement."""
    return statement[0] in NODES


def settle(steps, place):
    """The place at which control comes from a place to a node or to END."""
    while place != END and not is_node(steps[place][0]):
        place = steps[place][1][0]
    return place


def add_tree(steps, tree, after, loop):
    """Add the statements of a tree, from which control goes to the place `after`.

    `loop` is None, or the pair of the places to which `again` and `leave` go. The
    place to which a `jump` goes is not known here.
    """
    for place, statement in enumerate(tree):
        behind = len(steps) + size_of(statement)
        if place + 1 == len(tree):
            behind = after
        add_statement(steps, statement, behind, loop)


def add_statement(steps, statement, behind, loop):
    """Add a statement, behind which control goes to the place `behind`."""
    kind = statement[0]
    targets = []
    steps.append((statement, targets))
    if kind == "choose":
        for arm in statement[3]:
            targets.append(len(steps) if arm else behind)
            add_tree(steps, arm, behind, loop)
    elif kind == "loop":
        add_loop(steps, statement[1], behind)
    elif kind == "again":
        targets.append(loop[0])
    elif kind == "leave":
        targets.append(loop[1])
    elif kind == "stop":
        targets.append(END)
    elif kind != "jump":
        targets.append(behind)


def add_loop(steps, body, behind):
    """Add the body of the loop that was added last.

    The beginning of the body is the place of the loop itself, as control goes on from
    there; so a loop with an empty body comes back to itself.
    """
    number = len(steps) - 1
    steps[number][1].append(number + 1 if body else number)
    add_tree(steps, body, number, (number, behind))


def size_of(statement):
    """The number of statements that a statement is, with those inside of it."""
    return 1 + sum([size_of(inner) for tree in inner_trees(statement) for inner in tree])


def inner_trees(statement):
    """The trees of the arms or of the body of a statement."""
    if statement[0] == "choose":
        return statement[3]
    if statement[0] == "loop":
        return (statement[1],)
    return ()
