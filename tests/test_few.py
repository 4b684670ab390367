"""Points 47 to 49: few lanes in one ring."""

import unittest
from copy import deepcopy
from itertools import combinations
from random import Random

from foreworth.few import check_few, few_cost, few_paper, lanes_for, leaps
from foreworth.rings import Ring


def slow_few(ring, lanes):
    """The greatest cost of all sets of at most that many doors."""
    return max(ring.cost(doors=doors)
               for many in range(1, min(lanes, len(ring.doors)) + 1)
               for doors in combinations(ring.doors, many))


def slow_leaps(ring, door, lanes, cost):
    """Point 48: from each door the farthest one before the first door again."""
    bound = ring.whole() - cost - 1
    found = [door]
    while len(found) < lanes:
        ahead = [other for other in ring.doors
                 if ring.far(door, other) > ring.far(door, found[-1])
                 and ring.far(found[-1], other) <= bound]
        if not ahead:
            return found
        found.append(max(ahead, key=lambda other: ring.far(door, other)))
    return found


def random_rings(many, *, seed):
    source = Random(seed)
    for _ in range(many):
        size = source.randint(1, 7)
        prices = [source.randint(1, 6) for _ in range(size)]
        yield Ring(prices, sorted(source.sample(range(size), source.randint(1, size))))


class FewTest(unittest.TestCase):
    def setUp(self):
        # The gaps behind the doors are 5, 5, 1 and 4.
        self.ring = Ring([2, 3, 5, 1, 4], [0, 2, 3, 4])

    def test_one_lane(self):
        cost, doors = few_cost(self.ring, 1)
        self.assertEqual(cost, 0)
        self.assertEqual(len(doors), 1)
        self.assertIn(doors[0], self.ring.doors)

    def test_few_lanes(self):
        self.assertEqual(few_cost(self.ring, 2), (6, [2, 4]))
        self.assertEqual(few_cost(self.ring, 3)[0], 10)
        self.assertIn(few_cost(self.ring, 3)[1], [[0, 2, 3], [0, 2, 4], [2, 3, 4]])

    def test_as_many_lanes_as_doors_and_more(self):
        for lanes in (4, 5, 60, 10 ** 9):
            self.assertEqual(few_cost(self.ring, lanes)[0], 10)
            self.assertEqual(self.ring.cost(doors=tuple(few_cost(self.ring, lanes)[1])), 10)
            self.assertIs(check_few(self.ring, lanes, few_paper(self.ring, lanes)), True)
        self.assertEqual(few_cost(Ring([4, 2], [1]), 3), (0, [1]))
        self.assertEqual(few_cost(Ring([1, 1, 1], [0, 1, 2]), 3), (2, [0, 1, 2]))

    def test_lanes_for(self):
        told = [lanes_for(self.ring, cost) for cost in range(-2, 13)]
        self.assertEqual(told, [1] * 3 + [2] * 6 + [3] * 4 + [None] * 2)
        self.assertEqual(lanes_for(self.ring, -10 ** 12), 1)
        self.assertIsNone(lanes_for(self.ring, 15))
        self.assertIsNone(lanes_for(self.ring, 16))
        self.assertIsNone(lanes_for(self.ring, 10 ** 12))
        self.assertEqual(lanes_for(Ring([4, 2], [1]), 0), 1)
        self.assertIsNone(lanes_for(Ring([4, 2], [1]), 1))

    def test_leaps(self):
        self.assertEqual(leaps(self.ring, 0, 4, 6), [0, 2, 4])
        self.assertEqual(leaps(self.ring, 3, 4, 6), [3, 0, 2])
        self.assertEqual(leaps(self.ring, 3, 2, 6), [3, 0])
        self.assertEqual(leaps(self.ring, 0, 2, 6), [0, 2])
        # The distance is at most g - 1: the door 3 is 10 away from 0.
        self.assertEqual(leaps(self.ring, 0, 4, 5), [0, 2, 4])
        self.assertEqual(leaps(self.ring, 0, 4, 4), [0, 3, 4])

    def test_leaps_with_a_single_entry(self):
        self.assertEqual(leaps(self.ring, 2, 1, 0), [2])
        self.assertEqual(leaps(self.ring, 2, 4, 15), [2])
        self.assertEqual(leaps(self.ring, 2, 4, 10 ** 12), [2])
        self.assertEqual(leaps(Ring([4, 2], [1]), 1, 3, 0), [1])
        self.assertEqual(leaps(self.ring, 0, 4, 10), [0])

    def test_leaps_for_costs_below_0(self):
        self.assertEqual(leaps(self.ring, 0, 4, -1), [0, 4])
        self.assertEqual(leaps(self.ring, 3, 4, -10 ** 12), [3, 2])

    def test_against_all_sets(self):
        for ring in random_rings(200, seed=41):
            costs = [slow_few(ring, lanes) for lanes in range(1, 9)]
            for lanes, cost in enumerate(costs, start=1):
                found, doors = few_cost(ring, lanes)
                self.assertEqual(found, cost)
                self.assertEqual(doors, sorted(set(doors)))
                self.assertTrue(1 <= len(doors) <= lanes)
                self.assertEqual(ring.cost(doors=tuple(doors)), cost)
            for cost in range(-1, ring.whole() + 2):
                enough = [lanes for lanes in range(1, 9) if costs[lanes - 1] >= cost]
                self.assertEqual(lanes_for(ring, cost), min(enough, default=None))

    def test_against_slow_leaps_and_the_fact_of_point_48(self):
        for ring in random_rings(80, seed=42):
            for lanes in range(1, 5):
                few = slow_few(ring, lanes)
                for cost in range(-2, ring.whole() + 2):
                    rows = [leaps(ring, door, lanes, cost) for door in ring.doors]
                    self.assertEqual(
                        rows, [slow_leaps(ring, door, lanes, cost) for door in ring.doors])
                    gaps = [ring.far(row[-1], row[0]) or ring.whole() for row in rows]
                    self.assertEqual(few <= cost, min(gaps) >= ring.whole() - cost)

    def test_large_rings(self):
        source = Random(43)
        ring = Ring([source.randint(1, 10 ** 9) for _ in range(200)], list(range(200)))
        for lanes in (2, 7, 50, 199):
            paper = few_paper(ring, lanes)
            self.assertIs(check_few(ring, lanes, paper), True)
            self.assertLessEqual(lanes_for(ring, paper[0]), len(paper[1]))
            more = lanes_for(ring, paper[0] + 1)
            self.assertTrue(more is None or more > lanes)


class FewPaperTest(unittest.TestCase):
    def setUp(self):
        self.ring = Ring([2, 3, 5, 1, 4], [0, 2, 3, 4])
        self.rows = [[0, 2], [2, 4], [3, 0], [4, 0]]

    def check(self, cost, doors, rows, answer, lanes=2):
        paper = (cost, doors, rows)
        kept = deepcopy(paper)
        self.assertIs(check_few(self.ring, lanes, paper), answer, paper)
        self.assertEqual(paper, kept)

    def test_own_papers(self):
        self.assertEqual(few_paper(self.ring, 2), (6, [2, 4], self.rows))
        self.check(6, [2, 4], self.rows, True)
        for ring in random_rings(150, seed=44):
            for lanes in range(1, 6):
                cost, doors, rows = few_paper(ring, lanes)
                self.assertEqual((cost, doors), few_cost(ring, lanes))
                self.assertEqual(rows, [slow_leaps(ring, door, lanes, cost) for door in ring.doors])
                self.assertIs(check_few(ring, lanes, (cost, doors, rows)), True)

    def test_another_set_with_the_cost(self):
        ring = Ring([1, 1, 1, 1], [0, 1, 2, 3])
        for doors in ([0, 2], [1, 3]):
            rows = [leaps(ring, door, 2, 2) for door in ring.doors]
            self.assertIs(check_few(ring, 2, (2, doors, rows)), True)
        self.assertIs(check_few(ring, 2, (2, [0, 1], rows)), False)

    def test_doors(self):
        for doors in ([], [0], [3], [3, 0], [0, 0], [0, 3, 3], [0, 2, 3], [2, 1], [2, -1], [-1],
                      [-3, 4], [2, 5], [2, 99], [2, 3], [0, 3], [4, 2], [2, 2], [2, 4, 4]):
            self.check(6, doors, self.rows, False)
        # A door twice, where all else holds.
        ring = Ring([4, 3], [0, 1])
        self.assertIs(check_few(ring, 3, (3, [0, 1], [[0], [1, 0]])), True)
        self.assertIs(check_few(ring, 3, (3, [0, 1, 1], [[0], [1, 0]])), False)
        self.assertIs(check_few(ring, 3, (3, [0, 0, 1], [[0], [1, 0]])), False)
        # More doors than lanes, with that very cost.
        rows = [leaps(self.ring, door, 2, 10) for door in self.ring.doors]
        self.check(10, [0, 2, 3], rows, False)
        rows = [leaps(self.ring, door, 3, 10) for door in self.ring.doors]
        self.check(10, [0, 2, 3], rows, True, lanes=3)

    def test_cost(self):
        for cost in (5, 7, 0, -1, 15, 10 ** 12):
            self.check(cost, [2, 4], self.rows, False)
            rows = [leaps(self.ring, door, 2, cost) for door in self.ring.doors]
            self.check(cost, [2, 4], rows, False)

    def test_leaps(self):
        for rows in ([], self.rows[:3], self.rows + [[0, 2]], self.rows[::-1],
                     [[0, 2], [2, 4], [3, 0], [4]], [[0, 2], [2, 4], [3, 0], []],
                     [[0, 2], [2, 4], [3, 0], [4, 0, 2]], [[0, 2], [2, 4], [3, 0], [4, -1]],
                     [[0, 99], [2, 4], [3, 0], [4, 0]], [[-1], [2, 4], [3, 0], [4, 0]]):
            self.check(6, [2, 4], rows, False)

    def test_a_set_that_is_not_the_greatest(self):
        # The doors have that cost, and the leaps are right, but one of them comes too near.
        ring = self.ring
        for doors in ([0, 2], [2, 3], [3], [0, 4]):
            cost = ring.cost(doors=tuple(doors))
            rows = [leaps(ring, door, 2, cost) for door in ring.doors]
            self.assertEqual(rows, [slow_leaps(ring, door, 2, cost) for door in ring.doors])
            self.check(cost, doors, rows, False)

    def test_one_lane(self):
        rows = [[0], [2], [3], [4]]
        self.check(0, [3], rows, True, lanes=1)
        self.check(0, [], rows, False, lanes=1)
        self.check(6, [2, 4], rows, False, lanes=1)

    def test_lists_are_new(self):
        few_cost(self.ring, 2)[1].clear()
        leaps(self.ring, 0, 2, 6).clear()
        paper = few_paper(self.ring, 2)
        paper[1].clear()
        paper[2].clear()
        self.assertEqual(few_paper(self.ring, 2), (6, [2, 4], self.rows))


if __name__ == "__main__":
    unittest.main()
