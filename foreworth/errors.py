"""The errors of the program."""


class ForeworthError(ValueError):
    """The base class of all errors of the program."""


class BadNode(ForeworthError):
    """A node whose row is malformed, or a number that is no node of the graph."""

    def __init__(self, node):
        self.node = node


class Unreachable(ForeworthError):
    """A node to which node 0 does not lead."""

    def __init__(self, node):
        self.node = node


class NoEnd(ForeworthError):
    """A node that does not lead to END."""

    def __init__(self, node):
        self.node = node


class BadRing(ForeworthError):
    """Prices, doors and nodes that make no ring."""


class TextError(ForeworthError):
    """A fault in a program text, at a line that counts from 1."""

    def __init__(self, line):
        self.line = line


class BadLine(TextError):
    """A line that has none of the forms of a line."""


class Misplaced(TextError):
    """A line that may not stand where it stands."""


class TooDeep(TextError):
    """A line that opens a block inside of too many others."""


class DuplicateMark(TextError):
    """A mark whose name an earlier line has marked."""


class Unclosed(TextError):
    """A line that opens a block which nothing closes."""


class NoMark(TextError):
    """A jump to a name that no line marks."""


class BareLoop(ForeworthError):
    """A statement from which control moves on forever without coming to a node."""

    def __init__(self, statement):
        self.statement = statement


class BadStart(ForeworthError):
    """A tree whose control does not begin at its first node."""


class BadRun(ForeworthError):
    """A list of numbers in a team that is not a run."""

    def __init__(self, lane, place):
        self.lane = lane
        self.place = place


class NotStanding(ForeworthError):
    """A node at which a lane that should move does not stand."""

    def __init__(self, node):
        self.node = node


class Incomplete(ForeworthError):
    """A schedule that does not bring all lanes to their ends."""


class BadStay(ForeworthError):
    """A stay that does not begin at a door, or has no nodes."""

    def __init__(self, place):
        self.place = place


class TooLarge(ForeworthError):
    """A question whose answer would take too many steps."""


class WildProgram(ForeworthError):
    """A graph with a wild component where none may be."""

    def __init__(self, node):
        self.node = node


class NoWild(ForeworthError):
    """A graph without a wild component where one must be."""


class BadWord(ForeworthError):
    """A number that is no word of a helper."""


class BadChange(ForeworthError):
    """A change that cannot be made at the node."""

    def __init__(self, node):
        self.node = node


class BadDoors(ForeworthError):
    """Told nodes that are not one node of each of some rings."""


class BadOrder(ForeworthError):
    """A list that does not contain each node of the graph once."""


class MixedGraphs(ForeworthError):
    """A sum of ledgers of different graphs."""


class NotOver(ForeworthError):
    """A question for runs that are not decided yet."""


class DeskError(ForeworthError):
    """The base class of the errors of a desk."""


class BadName(DeskError):
    """A name that has not the form of a name."""

    def __init__(self, name):
        self.name = name


class NameTaken(DeskError):
    """A name that a program has already."""

    def __init__(self, name):
        self.name = name


class NoProgram(DeskError):
    """A name that no program has."""

    def __init__(self, name):
        self.name = name


class NoTeam(DeskError):
    """A name that no team of the program has."""

    def __init__(self, name):
        self.name = name


class Unending(DeskError):
    """A lane that does not end within the limit."""

    def __init__(self, lane):
        self.lane = lane


class BadPolicy(DeskError):
    """A name that no policy of a report has."""

    def __init__(self, name):
        self.name = name


class NothingToUndo(DeskError):
    """An undo where no deed is left."""


class NothingToRedo(DeskError):
    """A redo where no undone deed is left."""


class BadJournal(DeskError):
    """A line of a journal that cannot be read or done; lines count from 1."""

    def __init__(self, line):
        self.line = line
