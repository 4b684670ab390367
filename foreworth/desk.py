"""The desk: programs and teams by name, deeds that can be undone, and their journal."""

from foreworth.changes import with_price, with_successor, without_successor
from foreworth.errors import (
    BadJournal, BadName, BadNode, BadPolicy, ForeworthError, NameTaken, NoProgram, NoTeam,
    NothingToRedo, NothingToUndo, Unending)
from foreworth.flow import graph_of
from foreworth.graph import Graph
from foreworth.journal import read_deed, write_deed
from foreworth.least import least
from foreworth.plays import play
from foreworth.policies import LeastNode, MostLanes
from foreworth.reader import read
from foreworth.rounds import BehindGap, BehindNow
from foreworth.runs import price_of, run_of
from foreworth.words import is_word
from foreworth.worth import worth

MOST_NODES = 400
POLICIES = ("least", "most", "gap", "now")


class Change:
    """A name in a table that gets a value, or that is dropped if the value is None."""

    def __init__(self, table, name, value):
        self._table = table
        self._name = name
        self._order = list(table) if value is None else []
        self._before = table.get(name)
        self._behind = value

    def do(self):
        """Make the change."""
        if self._behind is None:
            del self._table[self._name]
        else:
            self._table[self._name] = self._behind

    def undo(self):
        """Bring back what was before the change, and its place in the order."""
        if self._before is None:
            del self._table[self._name]
        else:
            self._table[self._name] = self._before
        for name in self._order:
            value = self._table.pop(name)
            self._table[name] = value


class Desk:
    """Programs with their teams, and all deeds that have been done."""

    def __init__(self):
        # Each program is a pair of its graph and the dict of its teams.
        self._programs = {}
        self._done = []
        self._undone = []
        self._lines = []

    def enter(self, name, text):
        """Enter a program under a new name."""
        if not is_word(name):
            raise BadName(name)
        if name in self._programs:
            raise NameTaken(name)
        graph = graph_of(read(text))
        self._do(Change(self._programs, name, (graph, {})), ("enter", name, text))

    def drop(self, name):
        """Drop a program with its teams."""
        self._held(name)
        self._do(Change(self._programs, name, None), ("drop", name))

    def set_price(self, name, node, price):
        """Give a node of a program another price."""
        graph = with_price(self._graph_with(name, node), node, price)
        self._replace(graph, ("price", name, node, price))

    def add_successor(self, name, node, target):
        """Give a node of a program one more successor."""
        graph = with_successor(self._graph_with(name, node), node, target)
        self._replace(graph, ("edge", name, node, target))

    def cut_successor(self, name, node, place):
        """Leave out a successor entry of a node of a program."""
        graph = without_successor(self._graph_with(name, node), node, place)
        self._replace(graph, ("cut", name, node, place))

    def put_team(self, name, team, rows):
        """Put a team of rows of choices under a name."""
        _, teams = self._held(name)
        if not is_word(team):
            raise BadName(team)
        kept = [list(row) for row in rows]
        self._do(Change(teams, team, kept), ("team", name, team, kept))

    def undo(self):
        """Bring back the state before the last deed that is done."""
        if not self._done:
            raise NothingToUndo()
        change = self._done.pop()
        change.undo()
        self._undone.append(change)
        self._lines.append(write_deed(("undo",)))

    def redo(self):
        """Bring back the state behind the deed that was undone last."""
        if not self._undone:
            raise NothingToRedo()
        change = self._undone.pop()
        change.do()
        self._done.append(change)
        self._lines.append(write_deed(("redo",)))

    def programs(self):
        """The list of the names of the programs."""
        return list(self._programs)

    def program(self, name):
        """The graph of a program."""
        graph, _ = self._held(name)
        return Graph(graph.rows())

    def teams(self, name):
        """The list of the names of the teams of a program."""
        _, teams = self._held(name)
        return list(teams)

    def foresight(self, name):
        """The worth of foresight of a program, None if it is endless."""
        graph, _ = self._held(name)
        return worth(graph)

    def team_runs(self, name, team):
        """The runs of a team."""
        return runs_of_rows(self._held(name)[0], self._rows_of(name, team))

    def report(self, name, team, policy):
        """The bill of a play of the policy, the least bill and the loss."""
        graph, _ = self._held(name)
        rows = self._rows_of(name, team)
        if policy not in POLICIES:
            raise BadPolicy(policy)
        runs = runs_of_rows(graph, rows)
        player = new_policy(policy, graph)
        least_bill, _ = least(graph, runs)
        bill = price_of(graph, play(graph, runs, player))
        return (bill, least_bill, bill - least_bill)

    def journal(self):
        """The lines of all deeds, each with a newline behind it."""
        return "".join([line + "\n" for line in self._lines])

    def _held(self, name):
        """The graph and the teams of a program, or NoProgram."""
        if name not in self._programs:
            raise NoProgram(name)
        return self._programs[name]

    def _graph_with(self, name, node):
        """The graph of a program that has the node, or the error."""
        graph, _ = self._held(name)
        if not 0 <= node < graph.size:
            raise BadNode(node)
        return graph

    def _rows_of(self, name, team):
        """The rows of a team of a program, or NoTeam."""
        _, teams = self._held(name)
        if team not in teams:
            raise NoTeam(team)
        return teams[team]

    def _replace(self, graph, deed):
        """Do a deed that gives a program another graph; its teams stay."""
        _, teams = self._held(deed[1])
        self._do(Change(self._programs, deed[1], (graph, teams)), deed)

    def _do(self, change, deed):
        """Do a deed, behind which nothing can be redone."""
        line = write_deed(deed)
        change.do()
        self._done.append(change)
        self._undone = []
        self._lines.append(line)


def runs_of_rows(graph, rows):
    """The runs with these rows of choices, or Unending for the first that does not end."""
    runs = []
    for lane, row in enumerate(rows):
        run, ended = run_of(graph, row, limit=MOST_NODES)
        if not ended:
            raise Unending(lane)
        runs.append(run)
    return runs


def new_policy(name, graph):
    """A policy of a report, by its name."""
    if name == "least":
        return LeastNode()
    if name == "most":
        return MostLanes()
    return BehindGap(graph) if name == "gap" else BehindNow(graph)


def replay(text):
    """A new desk on which the deeds of the whole lines of a journal are done."""
    desk = Desk()
    for number, line in enumerate(text.split("\n")[:-1], start=1):
        deed = read_deed(line)
        if deed is None:
            raise BadJournal(number)
        try:
            do_deed(desk, deed)
        except ForeworthError:
            raise BadJournal(number) from None
    return desk


def do_deed(desk, deed):
    """Do on a desk what a line of a journal tells."""
    kind = deed[0]
    if kind == "enter":
        desk.enter(deed[1], deed[2])
    elif kind == "drop":
        desk.drop(deed[1])
    elif kind == "price":
        desk.set_price(deed[1], deed[2], deed[3])
    elif kind == "edge":
        desk.add_successor(deed[1], deed[2], deed[3])
    elif kind == "cut":
        desk.cut_successor(deed[1], deed[2], deed[3])
    elif kind == "team":
        desk.put_team(deed[1], deed[2], deed[3])
    elif kind == "undo":
        desk.undo()
    else:
        desk.redo()
