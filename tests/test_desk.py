"""Points 83 to 86: the desk."""

import unittest
from copy import deepcopy
from random import Random

from foreworth.changes import with_price, with_successor, without_successor
from foreworth.desk import Desk, replay
from foreworth.errors import (
    BadChange, BadJournal, BadLine, BadName, BadNode, BadPolicy, BadStart, BareLoop, DeskError,
    ForeworthError, Misplaced, NameTaken, NoEnd, NoProgram, NoTeam, NothingToRedo, NothingToUndo,
    TooLarge, Unclosed, Unending, Unreachable, WildProgram)
from foreworth.flow import graph_of, tree_of
from foreworth.graph import END, Graph
from foreworth.journal import write_deed
from foreworth.least import least
from foreworth.plays import play
from foreworth.policies import LeastNode, MostLanes
from foreworth.printer import show
from foreworth.reader import read
from foreworth.rings import Ring
from foreworth.rounds import BehindGap, BehindNow
from foreworth.runs import choices_of, price_of, run_of
from foreworth.worth import worth
from tests.samples import TWO_DOORS, WILD, ring_graph, ring_run, tame_graphs

UNEVEN = Ring([6, 3, 5, 1, 4], [0, 2, 3])

PAIR = "choose a 1\narm\ndo b 4\narm\nclose\nloop\nchoose c 3\narm\nleave\narm\nclose\nclose"
PAIR_ROWS = [("a", 1, (1, 2)), ("b", 4, (2,)), ("c", 3, (END, 2))]
TEXTS = ["do a 1", "do a 2\ndo b 3", PAIR, "choose a 1\narm\narm\ndo b 4\narm\ndo c 2\nclose"]
ROWS = [[], [[]], [[0, 1]], [[1, 1], [0, 1, 1], []], [[0], [1], [2, 3, 4]]]
NAMES = ["p", "q", "r"]


def text_of(rows):
    """The text of a graph with these rows."""
    return show(tree_of(Graph(rows)))


def answers(desk):
    """All that a desk tells, except its journal."""
    found = []
    for name in desk.programs():
        teams = [(team, answer(desk.team_runs, name, team),
                  [answer(desk.report, name, team, policy) for policy in ("least", "now")])
                 for team in desk.teams(name)]
        found.append((name, desk.program(name).rows(), desk.foresight(name), teams))
    return found


def answer(question, *arguments):
    """The answer, or the error with its attributes."""
    try:
        return question(*arguments)
    except ForeworthError as error:
        return error.__class__, vars(error)


class SlowDesk:
    """Points 83 and 85, with a copy of everything behind each deed."""

    def __init__(self):
        self.states = [[]]
        self.place = 0
        self.lines = []

    def do(self, deed):
        """Do a deed that is a tuple, and tell whether it was done."""
        kind, *told = deed
        if kind == "undo" and self.place > 0:
            self.place -= 1
        elif kind == "redo" and self.place + 1 < len(self.states):
            self.place += 1
        elif kind in ("undo", "redo"):
            return False
        else:
            try:
                state = self.changed(kind, *told)
            except ForeworthError:
                return False
            self.states = [*self.states[:self.place + 1], state]
            self.place += 1
        self.lines.append(write_deed(deed) + "\n")
        return True

    def changed(self, kind, name, *told):
        state = deepcopy(self.states[self.place])
        found = [program for program in state if program[0] == name]
        if kind == "enter":
            if found:
                raise NameTaken(name)
            return [*state, [name, graph_of(read(told[0])).rows(), []]]
        if not found:
            raise NoProgram(name)
        program = found[0]
        if kind == "drop":
            state.remove(program)
        elif kind == "team":
            same = [team for team in program[2] if team[0] == told[0]]
            if same:
                same[0][1] = told[1]
            else:
                program[2].append([told[0], told[1]])
        else:
            change = {"price": with_price, "edge": with_successor, "cut": without_successor}[kind]
            if told[0] >= len(program[1]):
                raise BadNode(told[0])
            program[1] = change(Graph(program[1]), *told).rows()
        return state

    def told(self):
        return [(name, rows, [team for team, _ in teams])
                for name, rows, teams in self.states[self.place]]


def told(desk):
    """The programs of a desk with their rows and the names of their teams, in order."""
    return [(name, desk.program(name).rows(), desk.teams(name)) for name in desk.programs()]


def do(desk, deed):
    """Do a deed that is a tuple."""
    kind, *rest = deed
    method = {"enter": desk.enter, "drop": desk.drop, "price": desk.set_price,
              "edge": desk.add_successor, "cut": desk.cut_successor, "team": desk.put_team,
              "undo": desk.undo, "redo": desk.redo}[kind]
    return method(*rest)


def random_deed(source):
    """A deed that may be done or refused."""
    kind = source.choice("enter enter drop price edge cut team team undo undo redo redo".split())
    name = source.choice(NAMES)
    node = source.randint(0, 3)
    return {
        "enter": ("enter", name, source.choice(TEXTS)), "drop": ("drop", name),
        "price": ("price", name, node, source.randint(0, 5)),
        "edge": ("edge", name, node, source.randint(-2, 3)),
        "cut": ("cut", name, node, source.randint(0, 2)),
        "team": ("team", name, source.choice("stu"), source.choice(ROWS)),
        "undo": ("undo",), "redo": ("redo",),
    }[kind]


class DeskCase(unittest.TestCase):
    """A desk with the program p, of which tests ask whether it stays as it is."""

    def setUp(self):
        self.desk = Desk()
        self.desk.enter("p", PAIR)
        self.desk.put_team("p", "t", [[0, 1], [1]])

    def refused(self, error, deed, *arguments, **attributes):
        """Check that a call raises just this error and changes nothing."""
        before = answers(self.desk), self.desk.journal()
        with self.assertRaises(ForeworthError) as caught:
            deed(*arguments)
        self.assertIs(caught.exception.__class__, error)
        for name, value in attributes.items():
            self.assertEqual(getattr(caught.exception, name), value)
        self.assertEqual((answers(self.desk), self.desk.journal()), before)


class DeedTest(DeskCase):
    def test_a_new_desk(self):
        desk = Desk()
        self.assertEqual((desk.programs(), desk.journal()), ([], ""))
        for deed, error in ((desk.undo, NothingToUndo), (desk.redo, NothingToRedo)):
            with self.assertRaises(error):
                deed()
        self.assertEqual(desk.journal(), "")

    def test_deeds_return_none(self):
        for deed in (("enter", "q", PAIR), ("price", "q", 0, 2), ("edge", "q", 1, END),
                     ("cut", "q", 1, 1), ("team", "q", "t", []), ("drop", "q"), ("undo",),
                     ("redo",)):
            self.assertIsNone(do(self.desk, deed))

    def test_entering(self):
        self.assertEqual(self.desk.program("p").rows(), PAIR_ROWS)
        self.desk.enter("abcdefgh", "do a 1")
        self.assertEqual(self.desk.program("abcdefgh").rows(), [("a", 1, (END,))])
        self.assertEqual(self.desk.teams("abcdefgh"), [])
        self.assertEqual(self.desk.programs(), ["p", "abcdefgh"])

    def test_errors_of_entering(self):
        for name in ("", "abcdefghi", "P", "a b", "p1", "p-", " p", "\n", "ab\n"):
            for text in (PAIR, "no"):
                self.refused(BadName, self.desk.enter, name, text, name=name)
        for text in (PAIR, "no", ""):
            self.refused(NameTaken, self.desk.enter, "p", text, name="p")
        self.refused(BadLine, self.desk.enter, "q", "do a 1\n", line=2)
        self.refused(BadLine, self.desk.enter, "q", "", line=1)
        self.refused(BadLine, self.desk.enter, "q", "do a 1;do b 1", line=1)
        self.refused(Misplaced, self.desk.enter, "q", "do a 1\nclose", line=2)
        self.refused(Unclosed, self.desk.enter, "q", "do a 1\nloop", line=2)
        self.refused(BareLoop, self.desk.enter, "q", "do a 1\nloop\nclose", statement=1)
        self.refused(BadStart, self.desk.enter, "q", "stop\ndo a 1")
        self.refused(Unreachable, self.desk.enter, "q", "do a 1\nstop\ndo b 1", node=1)
        self.refused(NoEnd, self.desk.enter, "q", "loop\ndo a 1\nclose", node=0)

    def test_dropping(self):
        self.desk.enter("q", "do a 1")
        self.desk.drop("p")
        self.assertEqual(self.desk.programs(), ["q"])
        self.refused(NoProgram, self.desk.drop, "p", name="p")
        self.refused(NoProgram, self.desk.drop, "P", name="P")
        # The name is free again, and the teams are gone.
        self.desk.enter("p", "do b 2")
        self.assertEqual(told(self.desk),
                         [("q", [("a", 1, (END,))], []), ("p", [("b", 2, (END,))], [])])

    def test_changes_of_a_graph(self):
        self.desk.set_price("p", 1, 9)
        self.assertEqual(self.desk.program("p").rows(), [PAIR_ROWS[0], ("b", 9, (2,)), PAIR_ROWS[2]])
        self.desk.add_successor("p", 1, END)
        self.desk.add_successor("p", 1, 0)
        self.assertEqual(self.desk.program("p").rows()[1], ("b", 9, (2, END, 0)))
        self.desk.cut_successor("p", 1, 0)
        self.assertEqual(self.desk.program("p").rows()[1], ("b", 9, (END, 0)))
        self.assertEqual(self.desk.teams("p"), ["t"])
        # The rows of choices stay, what they choose does not.
        self.assertEqual(self.desk.team_runs("p", "t"), [[0, 1, 0, 1], [0, 2]])

    def test_errors_of_changes(self):
        changes = [self.desk.set_price, self.desk.add_successor, self.desk.cut_successor]
        for change in changes:
            self.refused(NoProgram, change, "q", 0, 1, name="q")
            self.refused(NoProgram, change, "q", 7, 0, name="q")
            for node in (END, -2, 3, 1000):
                for other in (0, 1, -5, 99):
                    self.refused(BadNode, change, "p", node, other, node=node)
        for price in (0, -1, -7):
            self.refused(BadNode, self.desk.set_price, "p", 1, price, node=1)
        for target in (-2, 3, 1000):
            self.refused(BadNode, self.desk.add_successor, "p", 1, target, node=1)
        for place in (-1, -2, 1, 2, 100):
            self.refused(BadChange, self.desk.cut_successor, "p", 1, place, node=1)
        self.refused(BadNode, self.desk.cut_successor, "p", 1, 0, node=1)
        self.refused(NoEnd, self.desk.cut_successor, "p", 2, 0, node=0)
        self.refused(Unreachable, self.desk.cut_successor, "p", 0, 0, node=1)
        for target in (END, 0):
            self.desk.add_successor("p", 0, target)
        self.refused(BadNode, self.desk.add_successor, "p", 0, 1, node=0)

    def test_putting_teams(self):
        self.desk.put_team("p", "s", [])
        self.desk.put_team("p", "abcdefgh", [[]])
        self.assertEqual(self.desk.teams("p"), ["t", "s", "abcdefgh"])
        self.assertEqual(self.desk.team_runs("p", "s"), [])
        self.assertEqual(self.desk.team_runs("p", "abcdefgh"), [[0, 1, 2]])
        self.desk.put_team("p", "t", [[1, 1, 1, 0]])
        # A team that is replaced keeps its place.
        self.assertEqual(self.desk.teams("p"), ["t", "s", "abcdefgh"])
        self.assertEqual(self.desk.team_runs("p", "t"), [[0, 2, 2, 2]])

    def test_errors_of_putting_teams(self):
        for team in ("t", "T", ""):
            self.refused(NoProgram, self.desk.put_team, "q", team, [], name="q")
        for team in ("", "abcdefghi", "T", "a b", "t1", "-"):
            self.refused(BadName, self.desk.put_team, "p", team, [[1]], name=team)

    def test_two_programs_do_not_touch_each_other(self):
        self.desk.enter("q", PAIR)
        self.desk.set_price("q", 0, 8)
        self.desk.put_team("q", "u", [])
        self.desk.put_team("q", "t", [])
        self.assertEqual(told(self.desk), [
            ("p", PAIR_ROWS, ["t"]), ("q", [("a", 8, (1, 2)), *PAIR_ROWS[1:]], ["u", "t"])])
        self.assertEqual(self.desk.team_runs("p", "t"), [[0, 1, 2, 2], [0, 2]])


class UndoTest(DeskCase):
    def test_each_deed(self):
        deeds = [("enter", "q", "do a 1"), ("price", "p", 0, 5), ("edge", "p", 1, 0),
                 ("cut", "p", 0, 1), ("team", "p", "s", [[1]]), ("team", "p", "t", []),
                 ("drop", "p"), ("enter", "p", "do z 1"), ("team", "p", "t", [[]])]
        seen = [answers(self.desk)]
        for deed in deeds:
            do(self.desk, deed)
            seen.append(answers(self.desk))
        for place in reversed(range(len(deeds))):
            self.desk.undo()
            self.assertEqual(answers(self.desk), seen[place])
        for place in range(len(deeds)):
            self.desk.redo()
            self.assertEqual(answers(self.desk), seen[place + 1])
        self.refused(NothingToRedo, self.desk.redo)

    def test_two_undos_go_back_two_deeds(self):
        self.desk.undo()
        self.assertEqual(self.desk.teams("p"), [])
        self.desk.undo()
        self.assertEqual(self.desk.programs(), [])
        self.refused(NothingToUndo, self.desk.undo)
        self.desk.redo()
        self.desk.redo()
        self.refused(NothingToRedo, self.desk.redo)
        self.assertEqual(self.desk.teams("p"), ["t"])

    def test_deeds_without_effect(self):
        self.desk.set_price("p", 1, 4)
        self.desk.put_team("p", "t", [[0, 1], [1]])
        before = answers(self.desk)
        self.desk.undo()
        self.desk.undo()
        self.assertEqual(answers(self.desk), before)
        self.desk.redo()
        # Now the one that is undone is not available any more.
        self.desk.set_price("p", 1, 4)
        self.refused(NothingToRedo, self.desk.redo)
        self.assertEqual(answers(self.desk), before)

    def test_a_deed_makes_undone_ones_unavailable(self):
        self.desk.undo()
        self.desk.put_team("p", "s", [])
        self.refused(NothingToRedo, self.desk.redo)
        self.desk.undo()
        self.desk.redo()
        self.assertEqual(self.desk.teams("p"), ["s"])

    def test_a_refused_deed_leaves_undone_ones_available(self):
        self.desk.undo()
        self.refused(NameTaken, self.desk.enter, "p", PAIR)
        self.refused(BadNode, self.desk.set_price, "p", 0, 0)
        self.desk.redo()
        self.assertEqual(self.desk.teams("p"), ["t"])

    def test_the_order_of_programs(self):
        for name in ("q", "r", "s"):
            self.desk.enter(name, "do a 1")
        self.desk.drop("q")
        self.assertEqual(self.desk.programs(), ["p", "r", "s"])
        self.desk.undo()
        self.assertEqual(self.desk.programs(), ["p", "q", "r", "s"])
        self.desk.redo()
        self.desk.enter("q", "do b 1")
        self.assertEqual(self.desk.programs(), ["p", "r", "s", "q"])
        self.desk.drop("p")
        self.desk.undo()
        self.desk.set_price("r", 0, 7)
        self.assertEqual(self.desk.programs(), ["p", "r", "s", "q"])

    def test_the_order_of_teams(self):
        for team in ("u", "v"):
            self.desk.put_team("p", team, [])
        self.desk.put_team("p", "t", [])
        self.assertEqual(self.desk.teams("p"), ["t", "u", "v"])
        self.desk.undo()
        self.assertEqual(self.desk.teams("p"), ["t", "u", "v"])
        # Behind an undo of its first putting, a team comes last when it is put again.
        self.desk.undo()
        self.desk.undo()
        self.desk.put_team("p", "w", [])
        self.desk.put_team("p", "u", [])
        self.assertEqual(self.desk.teams("p"), ["t", "w", "u"])

    def test_teams_of_a_dropped_program_come_back(self):
        self.desk.set_price("p", 0, 3)
        self.desk.put_team("p", "s", [[]])
        before = answers(self.desk)
        self.desk.drop("p")
        self.desk.enter("p", "do a 1")
        self.desk.put_team("p", "x", [])
        for _ in range(3):
            self.desk.undo()
        self.assertEqual(answers(self.desk), before)
        self.desk.undo()
        self.assertEqual(self.desk.teams("p"), ["t"])


class QuestionTest(DeskCase):
    def test_runs_of_a_team(self):
        self.assertEqual(self.desk.team_runs("p", "t"), [[0, 1, 2, 2], [0, 2]])
        self.refused(NoProgram, self.desk.team_runs, "q", "t", name="q")
        self.refused(NoTeam, self.desk.team_runs, "p", "s", name="s")
        self.refused(NoTeam, self.desk.team_runs, "p", "T", name="T")

    def test_lanes_that_do_not_end(self):
        # A lane may execute 400 nodes: node 0, and 399 times node 2.
        self.desk.put_team("p", "s", [[1, *[1] * 398]])
        self.assertEqual(self.desk.team_runs("p", "s"), [[0] + [2] * 399])
        self.desk.put_team("p", "s", [[], [1, *[1] * 399], [1] * 400])
        self.refused(Unending, self.desk.team_runs, "p", "s", lane=1)
        for policy in ("least", "most", "gap", "now"):
            self.refused(Unending, self.desk.report, "p", "s", policy, lane=1)
        for policy in ("", "Least", "peek", "gap "):
            self.refused(BadPolicy, self.desk.report, "p", "s", policy, name=policy)

    def test_foresight(self):
        self.assertEqual(self.desk.foresight("p"), 0)
        self.desk.enter("q", text_of(TWO_DOORS))
        self.assertEqual(self.desk.foresight("q"), 3)
        self.desk.set_price("q", 2, 9)
        self.assertEqual(self.desk.foresight("q"), 4)
        self.desk.enter("r", text_of(WILD))
        self.assertIsNone(self.desk.foresight("r"))
        self.refused(NoProgram, self.desk.foresight, "s", name="s")

    def test_reports(self):
        for policy in ("least", "most", "gap", "now"):
            self.assertEqual(self.desk.report("p", "t", policy), (11, 11, 0))
        self.desk.enter("q", text_of(TWO_DOORS))
        # Lanes at both doors; the one at node 2 has two more nodes to go.
        self.desk.put_team("q", "t", [[0, 0, 1], [1, 0, 0, 1], [1, 1]])
        runs = [[0, 1, 2, 3], [0, 2, 1, 2, 3], [0, 2, 3]]
        self.assertEqual(self.desk.team_runs("q", "t"), runs)
        self.assertEqual(self.desk.report("q", "t", "least"), (17, 13, 4))
        self.assertEqual(self.desk.report("q", "t", "gap"), (13, 13, 0))
        self.desk.put_team("q", "none", [])
        self.assertEqual(self.desk.report("q", "none", "now"), (0, 0, 0))

    def test_each_policy_of_a_report(self):
        # A ring of five nodes with doors at nodes 1, 3 and 4, as in the tests of rounds.
        graph = ring_graph(UNEVEN)
        self.desk.enter("q", text_of(graph.rows()))
        runs = [ring_run(UNEVEN, door, length) for door, length in ((0, 4), (2, 1), (2, 5))]
        self.desk.put_team("q", "t", [choices_of(graph, run) for run in runs])
        for name, bill in (("least", 36), ("most", 35), ("gap", 27), ("now", 30)):
            self.assertEqual(self.desk.report("q", "t", name), (bill, 27, bill - 27))

    def test_errors_of_reports(self):
        for team in ("t", "s"):
            for policy in ("gap", "no"):
                self.refused(NoProgram, self.desk.report, "q", team, policy, name="q")
        for policy in ("gap", "no"):
            self.refused(NoTeam, self.desk.report, "p", "s", policy, name="s")
        self.refused(BadPolicy, self.desk.report, "p", "t", "no", name="no")

    def test_wild_programs(self):
        self.desk.enter("w", text_of(WILD))
        self.desk.put_team("w", "short", [[0, 1, 1], [1, 0, 1, 1]])
        self.assertEqual(self.desk.report("w", "short", "least"), (17, 15, 2))
        for policy in ("gap", "now"):
            self.refused(WildProgram, self.desk.report, "w", "short", policy, node=1)
        # Three long lanes have too many fronts. WildProgram comes before TooLarge, and
        # Unending before both.
        rows = [[0] * 40 + [1, 1], [1, 0] * 40 + [1, 1], [0, 1, 0] * 20 + [1, 1]]
        self.desk.put_team("w", "long", rows)
        for policy in ("least", "most"):
            self.refused(TooLarge, self.desk.report, "w", "long", policy)
        for policy in ("gap", "now"):
            self.refused(WildProgram, self.desk.report, "w", "long", policy, node=1)
        self.desk.put_team("w", "long", [*rows, [0] * 500])
        for policy in ("least", "most", "gap", "now"):
            self.refused(Unending, self.desk.report, "w", "long", policy, lane=3)

    def test_random_reports(self):
        source = Random(60)
        for graph in tame_graphs(40, seed=61):
            desk = Desk()
            desk.enter("p", text_of(graph.rows()))
            rows = [[source.randint(0, 9) for _ in range(20)] for _ in range(4)]
            runs = [run_of(graph, row)[0] for row in rows]
            if not all(run_of(graph, row)[1] for row in rows):
                continue
            desk.put_team("p", "t", rows)
            self.assertEqual(desk.team_runs("p", "t"), runs)
            self.assertEqual(desk.foresight("p"), worth(graph))
            least_bill = least(graph, runs)[0]
            for name, policy in (("least", LeastNode()), ("most", MostLanes()),
                                 ("gap", BehindGap(graph)), ("now", BehindNow(graph))):
                bill = price_of(graph, play(graph, runs, policy))
                self.assertEqual(desk.report("p", "t", name), (bill, least_bill, bill - least_bill))

    def test_questions_change_nothing(self):
        before = self.desk.journal()
        seen = [answers(self.desk) for _ in range(3)]
        self.assertEqual(seen[0], seen[2])
        self.assertEqual(self.desk.journal(), before)
        self.desk.undo()
        answers(self.desk)
        self.desk.redo()
        self.assertEqual(answers(self.desk), seen[0])

    def test_what_is_passed_and_returned_may_be_changed(self):
        rows = [[0, 1], [1]]
        self.desk.put_team("p", "s", rows)
        self.assertEqual(rows, [[0, 1], [1]])
        before = answers(self.desk), self.desk.journal()
        rows[0].clear()
        rows.clear()
        graph = self.desk.program("p")
        graph.size = 1
        for found in (self.desk.programs(), self.desk.teams("p"), self.desk.team_runs("p", "s"),
                      self.desk.team_runs("p", "s")[0], self.desk.program("p").rows()):
            found.clear()
        self.assertEqual((answers(self.desk), self.desk.journal()), before)
        self.desk.set_price("p", 2, 3)
        self.desk.undo()
        self.desk.undo()
        self.desk.redo()
        self.assertEqual(answers(self.desk), before[0])
        self.assertEqual(answers(replay(before[1])), before[0])


class JournalTest(DeskCase):
    def test_lines(self):
        self.desk.set_price("p", 1, 10 ** 9)
        self.desk.add_successor("p", 1, END)
        self.desk.add_successor("p", 1, 0)
        self.desk.cut_successor("p", 1, 2)
        self.desk.put_team("p", "none", [])
        self.desk.put_team("p", "s", [[], [5]])
        self.desk.undo()
        self.desk.redo()
        self.desk.drop("p")
        self.assertEqual(self.desk.journal(), "\n".join([
            "enter p " + PAIR.replace("\n", ";"), "team p t 0,1;1", "price p 1 1000000000",
            "edge p 1 end", "edge p 1 0", "cut p 1 2", "team p none none", "team p s -;5", "undo",
            "redo", "drop p", ""]))

    def test_the_same_as_the_slow_desk(self):
        source = Random(62)
        for _ in range(60):
            desk, slow = Desk(), SlowDesk()
            for _ in range(60):
                deed = random_deed(source)
                done = slow.do(deed)
                try:
                    do(desk, deed)
                    self.assertTrue(done, deed)
                except ForeworthError:
                    self.assertFalse(done, deed)
                self.assertEqual(told(desk), slow.told())
            self.assertEqual(desk.journal(), "".join(slow.lines))

    def test_replays(self):
        source = Random(63)
        for _ in range(40):
            desk = Desk()
            for _ in range(40):
                answer(do, desk, random_deed(source))
            again = replay(desk.journal())
            self.assertEqual(answers(again), answers(desk))
            self.assertEqual(again.journal(), desk.journal())
            # What can be undone and redone is the same, too.
            for deed in [("redo",)] * 3 + [("undo",)] * 40 + [("redo",)] * 40:
                self.assertEqual(answer(do, again, deed), answer(do, desk, deed))
                self.assertEqual(told(again), told(desk))
            self.assertEqual(again.journal(), desk.journal())

    def test_journals_that_are_cut_off(self):
        source = Random(64)
        desk = Desk()
        states = [(answers(desk), "")]
        while len(states) < 25:
            answer(do, desk, random_deed(source))
            if desk.journal() != states[-1][1]:
                states.append((answers(desk), desk.journal()))
        text = desk.journal()
        for place in range(len(text) + 1):
            found, journal = states[text[:place].count("\n")]
            again = replay(text[:place])
            self.assertEqual(again.journal(), journal)
            if place % 5 == 0:
                self.assertEqual(answers(again), found)

    def test_what_follows_the_last_newline(self):
        line = "enter p do a 1\n"
        for rest in ("", "undo", "nonsense", "enter p", " ", "drop p"):
            self.assertEqual(replay(line + rest).journal(), line)
            self.assertEqual(replay(rest).journal(), "")
        self.assertEqual(replay("").programs(), [])
        self.assertIsInstance(replay(""), Desk)

    def test_lines_at_fault(self):
        good = "enter p do a 1;do b 2\nteam p t -\n"
        wrong = ["", " ", "nonsense", "undo ", "enter q", "enter Q do a 1", "enter q do a", "drop q",
                 "enter q loop;do a 1;close", "price p 2 1", "price p 0 0", "price q 0 1",
                 "edge p 0 2", "edge p 0 -1", "edge p 0 01", "cut p 0 1", "cut p 0 0", "cut p 0 end",
                 "team p t", "team q t none", "team p t 1;;1", "redo", "report p t now"]
        for line in wrong:
            for text, number in ((line + "\n", 1), (good + line + "\n", 3),
                                 (good + "undo\nundo\nredo\nredo\n" + line + "\n", 7),
                                 (good + line + "\nnonsense\n", 3), (good + line + "\nundo", 3)):
                with self.assertRaises(BadJournal) as caught:
                    replay(text)
                self.assertEqual(caught.exception.line, number)
                self.assertIsInstance(caught.exception, DeskError)
        for text, number in (("undo\n", 1), (good + "enter p do a 1\n", 3),
                             (good + "undo\nundo\nundo\n", 5)):
            with self.assertRaises(BadJournal) as caught:
                replay(text)
            self.assertEqual(caught.exception.line, number)
        self.assertEqual(replay(good + "undo\n").teams("p"), [])

    def test_a_desk_and_its_replay_do_not_touch_each_other(self):
        again = replay(self.desk.journal())
        before = answers(self.desk)
        again.set_price("p", 0, 9)
        again.put_team("p", "t", [])
        again.undo()
        again.drop("p")
        self.assertEqual(answers(self.desk), before)
        other = replay(self.desk.journal())
        self.desk.drop("p")
        self.assertEqual(answers(other), before)
        self.assertEqual(Desk().programs(), [])

    def test_limits(self):
        desk = Desk()
        body = "\n".join(f"do w {10 ** 12 - 1 - place}" for place in range(200))
        desk.enter("long", body)
        desk.put_team("long", "many", [[10 ** 9] * 400 for _ in range(60)])
        self.assertEqual(len(desk.team_runs("long", "many")), 60)
        bill, least_bill, lost = desk.report("long", "many", "now")
        whole = sum(10 ** 12 - 1 - place for place in range(200))
        self.assertEqual((bill, least_bill, lost), (whole, whole, 0))
        for place in range(500):
            desk.set_price("long", place % 200, 10 ** 9 - place)
            desk.put_team("long", "s", [[place]])
        for _ in range(400):
            desk.undo()
        again = replay(desk.journal())
        self.assertEqual(told(again), told(desk))
        self.assertEqual(again.journal(), desk.journal())
        self.assertEqual(desk.journal().count("\n"), 1402)


if __name__ == "__main__":
    unittest.main()
