"""Points 68 and 69, with 65: the wild adversary."""

import unittest
from random import Random

from foreworth.components import kinds
from foreworth.errors import BadNode, NotOver, NotStanding, NoWild, TooLarge
from foreworth.graph import END, Graph
from foreworth.least import loss
from foreworth.runs import check_team, price_of
from foreworth.wildfoe import WildAdversary
from tests.foes import SlowWild
from tests.playing import beat_by_chance, random_beats
from tests.samples import THREE_RINGS, TWO_DOORS, WILD, random_graphs
from tests.slow import cheapest_bill

# In WILD, the certificate belongs to node 1; its loops are [2, 1] and [3, 1], the way in is
# [0, 1] and the way out [3, 4].


def wild_graphs(many, seed):
    """Some graphs with a wild component."""
    return [graph for graph in random_graphs(many, seed=seed) if "wild" in kinds(graph)]


def told(foe):
    """All that an adversary tells without an error."""
    return (foe.bill, foe.sight, foe.over, foe.standing(), foe.shown(), foe.schedule())


class WildFoeTest(unittest.TestCase):
    def setUp(self):
        self.graph = Graph(WILD)

    def beaten(self, target, beats, sight=0):
        foe = WildAdversary(self.graph, target, sight=sight)
        for node in beats:
            foe.beat(node)
        return foe

    def test_no_wild_component(self):
        for rows in (TWO_DOORS, THREE_RINGS, [("a", 1, (END,))]):
            with self.assertRaises(NoWild):
                WildAdversary(Graph(rows), 1)

    def test_new_adversary(self):
        foe = WildAdversary(self.graph, 5)
        self.assertEqual(told(foe), (0, 0, False, [0, 0], [[], []], []))
        with self.assertRaises(NotOver):
            foe.runs()
        foe = WildAdversary(self.graph, 5, sight=6)
        self.assertEqual(told(foe),
                         (0, 6, False, [0, 0], [[1, 2, 1, 2, 1, 2], [1, 3, 1, 3, 1, 3]], []))

    def test_the_first_lane_reaches_the_target(self):
        foe = self.beaten(3, [0, 1])
        self.assertEqual(told(foe), (3, 0, False, [2, 3], [[], []], [0, 1]))
        # Lane 0 has paid 3 alone. It was decided for [0, 1, 2], which is one round.
        self.assertEqual(foe.beat(2), [0])
        self.assertEqual(foe.standing(), [1, 3])
        random_beats(foe, Random(1))
        self.assertEqual(foe.runs(), [[0, 1, 2, 1, 3, 4], [0, 1, 3, 1, 2, 1, 3, 4]])

    def test_the_second_lane_reaches_the_target(self):
        # Nodes 3 and 1 cost 3, which lane 1 has paid alone. It was decided for one round.
        foe = self.beaten(3, [0, 1, 3, 1])
        self.assertEqual(foe.standing(), [2, 3])
        random_beats(foe, Random(2))
        self.assertEqual(foe.runs(), [[0, 1, 2, 1, 3, 1, 3, 4], [0, 1, 3, 1, 3, 4]])

    def test_beats_of_both_lanes_do_not_count(self):
        foe = self.beaten(4, [0, 1, 3, 2, 1, 3])
        # Lane 0 has paid 3 alone and lane 1 has paid 2; node 1 moved both of them.
        self.assertEqual(foe.standing(), [2, 1])
        self.assertEqual(foe.beat(2), [0])
        # The lanes were decided for 5 and 6 nodes, so both have two rounds.
        self.assertEqual(foe.shown(), [[], []])
        random_beats(foe, Random(3))
        self.assertEqual(foe.runs(), [[0, 1, 2, 1, 2, 1, 3, 4],
                                      [0, 1, 3, 1, 3, 1, 2, 1, 2, 1, 3, 4]])

    def test_a_target_that_is_reached_on_the_way_in(self):
        foe = WildAdversary(self.graph, 1)
        self.assertEqual(foe.beat(0, lanes=[1]), [1])
        # Lane 1 was decided for node 0 alone: no rounds, and lane 0 has none either.
        random_beats(foe, Random(4))
        self.assertEqual(foe.runs(), [[0, 1, 3, 4], [0, 1, 3, 4]])
        foe = WildAdversary(self.graph, 2, sight=1)
        foe.beat(0)
        foe.beat(1, lanes=[0])
        # Both were decided for [0, 1] and one more.
        random_beats(foe, Random(5))
        self.assertEqual(foe.runs(), [[0, 1, 2, 1, 3, 4], [0, 1, 3, 1, 2, 1, 3, 4]])

    def test_sights(self):
        for sight in range(8):
            foe = self.beaten(3, [0, 1, 2], sight=sight)
            rounds = [0, 0]
            for lane in (0, 1):
                while 2 + 2 * rounds[lane] < 3 + sight:
                    rounds[lane] += 1
            first = [0, 1] + [2, 1] * rounds[0] + [3, 4]
            second = [0, 1] + [3, 1] * rounds[1] + [2, 1] * rounds[0] + [3, 4]
            self.assertEqual(foe.shown(), [first[4:4 + sight], second[3:3 + sight]])
            random_beats(foe, Random(sight))
            self.assertEqual(foe.runs(), [first, second])

    def test_no_way_out(self):
        # Node 0 is the node of the certificate, and has END among its successors.
        graph = Graph([("a", 2, (1, 0, END)), ("b", 3, (0,))])
        foe = WildAdversary(graph, 2)
        self.assertEqual(foe.beat(0), [0, 1])
        self.assertEqual(foe.standing(), [0, 1])
        self.assertEqual(foe.beat(0), [0])
        self.assertEqual(foe.standing(), [END, 1])
        random_beats(foe, Random(6))
        self.assertEqual(foe.runs(), [[0, 0], [0, 1, 0, 0]])

    def test_wrong_beats(self):
        foe = self.beaten(5, [0, 1])
        before = told(foe)
        for node in (END, -2, 5, 77):
            for lanes in (None, [], [0]):
                with self.assertRaises(BadNode) as caught:
                    foe.beat(node, lanes=lanes)
                self.assertEqual(caught.exception.node, node)
        for node, lanes in ((0, None), (4, None), (2, []), (2, [1]), (2, [0, 1]), (2, [2]),
                            (3, [-1]), (1, [0])):
            with self.assertRaises(NotStanding) as caught:
                foe.beat(node, lanes=lanes)
            self.assertEqual(caught.exception.node, node)
        self.assertEqual(told(foe), before)
        self.assertEqual(foe.beat(3, lanes=[1, 1]), [1])

    def test_the_same_as_the_slow_adversary(self):
        source = Random(7)
        for graph in wild_graphs(200, 12):
            for sight in (0, 1, 4):
                target = source.randint(1, 25)
                foe = WildAdversary(graph, target, sight=sight)
                slow = SlowWild(graph, target, sight=sight)
                while not slow.over:
                    self.assertEqual((foe.standing(), foe.shown(), foe.bill, foe.over),
                                     (slow.standing(), slow.shown(), slow.bill, False))
                    first, second = beat_by_chance([foe, slow], source)
                    self.assertEqual(first, second)
                self.assertIs(foe.over, True)
                self.assertEqual(foe.runs(), slow.runs())

    def test_what_was_shown_comes_true(self):
        source = Random(8)
        for graph in wild_graphs(100, 13):
            foe = WildAdversary(graph, 9, sight=3)
            seen = []
            done = [0, 0]
            while not foe.over:
                seen.append((list(done), foe.standing(), foe.shown()))
                for lane in beat_by_chance([foe], source)[0]:
                    done[lane] += 1
            runs = foe.runs()
            for done, standing, shown in seen:
                rests = [run[many:] for run, many in zip(runs, done)]
                self.assertEqual([(rest + [END])[0] for rest in rests], standing)
                self.assertEqual([rest[1:4] for rest in rests], shown)

    def test_facts(self):
        source = Random(9)
        for graph in wild_graphs(200, 14):
            for target, sight in ((1, 0), (7, 2), (30, 0), (30, 50)):
                foe = WildAdversary(graph, target, sight=sight)
                random_beats(foe, source)
                runs = foe.runs()
                self.assertIsNone(check_team(graph, runs))
                self.assertEqual(foe.bill, price_of(graph, foe.schedule()))
                for run in runs:
                    self.assertLessEqual(len(run), 2 * graph.size * (3 * target + sight + 5))
                # One run contains the other, so it is the least bill.
                least_bill = max(price_of(graph, run) for run in runs)
                self.assertGreaterEqual(foe.bill - least_bill, target)
                try:
                    self.assertEqual(loss(graph, runs, foe.schedule()), foe.bill - least_bill)
                except TooLarge:
                    pass
                if sum(map(len, runs)) < 40:
                    self.assertEqual(cheapest_bill(graph, runs), least_bill)

    def test_questions_change_nothing(self):
        for place, graph in enumerate(wild_graphs(60, 15)):
            asked = WildAdversary(graph, 6, sight=2)
            quiet = WildAdversary(graph, 6, sight=2)
            source = Random(place)
            while not quiet.over:
                self.assertEqual(told(asked), told(asked))
                with self.assertRaises(NotOver):
                    asked.runs()
                beat_by_chance([quiet, asked], source)
            self.assertEqual((told(asked), asked.runs()), (told(quiet), quiet.runs()))

    def test_what_is_passed_and_returned_may_be_changed(self):
        foe = WildAdversary(self.graph, 5, sight=3)
        other = WildAdversary(self.graph, 5, sight=3)
        while not other.over:
            for found in (foe.standing(), foe.schedule(), foe.shown(), foe.shown()[0]):
                found[:] = [5]
            self.assertEqual(told(foe), told(other))
            node = min(node for node in other.standing() if node != END)
            lanes = [lane for lane, place in enumerate(foe.standing()) if place == node]
            listed = list(lanes)
            foe.beat(node, lanes=listed).clear()
            self.assertEqual(listed, lanes)
            other.beat(node)
        foe.runs()[0].clear()
        self.assertEqual(foe.runs(), other.runs())

    def test_limits(self):
        rows = [("a", 1, (node + 1,)) for node in range(198)]
        graph = Graph([*rows, ("b", 1, (0, 199)), ("c", 1, (0, END))])
        foe = WildAdversary(graph, 1000, sight=50)
        while not foe.over:
            foe.beat(max(foe.standing()))
        runs = foe.runs()
        self.assertGreaterEqual(foe.bill - max(map(len, runs)), 1000)
        self.assertLessEqual(max(map(len, runs)), 400 * 3055)
        foe = WildAdversary(Graph([("a", 10 ** 9, (0, 1)), ("b", 10 ** 9, (0, END))]), 1000)
        random_beats(foe, Random(10))
        self.assertGreaterEqual(foe.bill, 10 ** 9)


if __name__ == "__main__":
    unittest.main()
