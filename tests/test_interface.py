"""The interface: names, files, arguments and the classes in which methods stand."""

import inspect
import unittest
from importlib import import_module

FUNCTIONS = {
    "paths": ["shortest_path(graph, first, last, *, avoid=())"],
    "components": ["components(graph)", "component_of(graph)", "kinds(graph)",
                   "exits(graph, nodes)"],
    "rings": ["ring_of(graph, nodes)", "rings(graph)"],
    "reader": ["read(text)"],
    "printer": ["show(tree)"],
    "flow": ["graph_of(tree)", "name_of(node)", "tree_of(graph)"],
    "runs": ["run_of(graph, choices, *, limit=400)", "log_of(graph, nodes)",
             "price_of(graph, nodes)", "check_team(graph, runs)", "choices_of(graph, run)"],
    "walker": ["walk(tree, choices, *, limit=400)"],
    "schedules": ["prefixes(runs, schedule)", "is_complete(runs, schedule)",
                  "thin(runs, schedule)"],
    "laying": ["union_price(ring, stays, start)", "union_beats(ring, stays, start)",
               "least_laying(ring, stays)"],
    "fronts": ["front_heights(prices, rows)", "least_row(prices, rows)",
               "check_heights(prices, rows, heights, claim)"],
    "least": ["stretches(graph, run)", "least_by_component(graph, runs)", "least(graph, runs)",
              "loss(graph, runs, schedule)", "loss_by_component(graph, runs, schedule)"],
    "worth": ["worth(graph)", "is_worthless(graph)"],
    "papers": ["worth_paper(graph)", "check_paper(graph, paper)"],
    "routes": ["route_of(graph, run)", "doors_met(graph, runs)", "route_cost(graph, runs)",
               "full_routes(graph)"],
    "few": ["few_cost(ring, lanes)", "lanes_for(ring, cost)", "leaps(ring, door, lanes, cost)",
            "few_paper(ring, lanes)", "check_few(ring, lanes, paper)"],
    "pairs": ["pair_worth(graph)", "pair_heights(graph)",
              "check_pair_heights(graph, heights, claim)", "pair_routes(graph)"],
    "helper": ["word_count(graph, routes)", "word_of(graph, runs)",
               "word_doors(graph, routes, word)", "word_team(graph, routes, word)"],
    "changes": ["with_price(graph, node, price)", "with_successor(graph, node, target)",
                "without_successor(graph, node, place)", "split_node(graph, node, first)",
                "split_run(run, node, added)"],
    "sweeps": ["back_steps(graph, order, run)"],
    "plays": ["play(graph, runs, policy, *, sight=None)"],
    "duel": ["duel(adversary, policy)"],
    "covers": ["covers(top, bottom, mapping)", "picture(mapping, run)", "lift(top, bottom, run)",
               "extra(top, bottom, runs)"],
    "projected": ["check_cover(top, bottom, mapping)"],
    "joins": ["join(graph)"],
    "folds": ["fold(graph)", "difference(first, second)"],
    "blocks": ["blocks(graph)", "block_run(found, run)"],
    "journal": ["write_deed(deed)", "read_deed(line)"],
    "desk": ["replay(text)"],
}
PICK = "pick(self, standing, *, shown=None)"
FOE = ["beat(self, node, *, lanes=None)", "standing(self)", "shown(self)", "schedule(self)",
       "runs(self)"]
METHODS = {
    ("graph", "Graph"): ["__init__(self, rows)", "rows(self)", "word(self, node)",
                         "price(self, node)", "successors(self, node)", "__iter__(self)"],
    ("rings", "Ring"): ["__init__(self, prices, doors, *, nodes=None)", "whole(self)",
                        "far(self, first, second)", "gap_after(self, door, *, doors=None)",
                        "greatest_gap(self, *, doors=None)", "cost(self, *, doors=None)",
                        "start(self, *, doors=None)", "last(self, *, doors=None)"],
    ("machine", "Machine"): ["__init__(self, graph, runs)", "standing(self)", "done(self)",
                             "at(self, node)", "schedule(self)",
                             "beat(self, node, *, lanes=None)"],
    ("policies", "LeastNode"): [PICK],
    ("policies", "MostLanes"): [PICK],
    ("policies", "ByRow"): ["__init__(self, row)", PICK],
    ("policies", "Peek"): [PICK],
    ("policies", "Fixed"): ["__init__(self, row)", PICK],
    ("rounds", "RoundFrom"): ["__init__(self, graph, nodes)", PICK],
    ("rounds", "BehindGap"): ["__init__(self, graph)", PICK],
    ("rounds", "BehindNow"): ["__init__(self, graph)", PICK],
    ("sweeps", "Sweep"): ["__init__(self, graph, order)", PICK],
    ("ledger", "Ledger"): ["__init__(self, graph)", "add(self, runs, schedule)", "losses(self)",
                           "__iter__(self)", "__add__(self, other)"],
    ("adversary", "RingAdversary"): ["__init__(self, graph, routes, *, sight=0)", *FOE],
    ("wildfoe", "WildAdversary"): ["__init__(self, graph, target, *, sight=0)", *FOE],
    ("ringgame", "RingGame"): ["__init__(self, ring, longest, *, sight=0)", "starts(self)",
                               "moves(self, state)", "replies(self, state, move)",
                               "value_of(self, state)", "value(self)", "best_move(self, state)",
                               "best_reply(self, state, move)"],
    ("projected", "Projected"): ["__init__(self, top, bottom, mapping, policy)", PICK],
    ("desk", "Desk"): ["__init__(self)", "enter(self, name, text)", "drop(self, name)",
                       "set_price(self, name, node, price)",
                       "add_successor(self, name, node, target)",
                       "cut_successor(self, name, node, place)",
                       "put_team(self, name, team, rows)", "undo(self)", "redo(self)",
                       "programs(self)", "program(self, name)", "teams(self, name)",
                       "foresight(self, name)", "team_runs(self, name, team)",
                       "report(self, name, team, policy)", "journal(self)"],
}
PROPERTIES = {
    ("machine", "Machine"): ["over"],
    ("ledger", "Ledger"): ["total", "worst"],
    ("adversary", "RingAdversary"): ["over"],
    ("wildfoe", "WildAdversary"): ["over"],
}


class InterfaceTest(unittest.TestCase):
    def test_functions(self):
        for name, signatures in FUNCTIONS.items():
            module = import_module("foreworth." + name)
            for signature in signatures:
                with self.subTest(module=name, signature=signature):
                    found = getattr(module, signature.split("(")[0])
                    self.assertEqual(found.__name__ + str(inspect.signature(found)), signature)
                    self.assertEqual(found.__module__, module.__name__)

    def test_methods(self):
        for (name, owner), signatures in METHODS.items():
            module = import_module("foreworth." + name)
            self.assertEqual(getattr(module, owner).__module__, module.__name__)
            for signature in signatures:
                with self.subTest(owner=owner, signature=signature):
                    found = vars(getattr(module, owner))[signature.split("(")[0]]
                    self.assertEqual(found.__name__ + str(inspect.signature(found)), signature)

    def test_properties(self):
        for (name, owner), names in PROPERTIES.items():
            for found in names:
                member = vars(getattr(import_module("foreworth." + name), owner))[found]
                self.assertIsInstance(member, property)


if __name__ == "__main__":
    unittest.main()
