"""Points 33 to 35: least bills of any rows."""

import unittest
from random import Random

from foreworth.errors import TooLarge
from foreworth.fronts import check_heights, front_heights, least_row
from tests.slow import cheapest_rows, contains

PRICES = [2, 3, 5]
ROWS = [[0, 1], [1, 0]]
# From (0, 0) on: the two rows as they are, or merged at one of the symbols.
HEIGHTS = {(0, 0): 7, (1, 0): 5, (0, 1): 5, (2, 1): 2, (1, 2): 3, (2, 2): 0}


def slow_heights(prices, rows):
    """The heights of the reachable fronts, each from the rests of the rows there."""
    ahead = [(0,) * len(rows)]
    found = {}
    while ahead:
        front = ahead.pop()
        rests = [row[done:] for row, done in zip(rows, front)]
        found[front] = cheapest_rows(prices, rests)
        for symbol in {rest[0] for rest in rests if rest}:
            ahead.append(tuple(done + (rest[:1] == [symbol]) for rest, done in zip(rests, front)))
    return found


def all_least(prices, rests, bill):
    """All lists of symbols that are due, contain the rests and cost no more than the bill."""
    if not any(rests):
        return [[]] if bill >= 0 else []
    found = []
    for symbol in sorted({rest[0] for rest in rests if rest}):
        if prices[symbol] <= bill:
            left = [rest[1:] if rest[:1] == [symbol] else rest for rest in rests]
            for symbols in all_least(prices, left, bill - prices[symbol]):
                found.append([symbol, *symbols])
    return found


def slow_check(prices, rows, heights, claim):
    """Point 35, condition by condition."""
    for front in slow_heights(prices, rows):
        if front not in heights:
            return False
        rests = [row[done:] for row, done in zip(rows, front)]
        if not any(rests) and heights[front] > 0:
            return False
        for symbol in {rest[0] for rest in rests if rest}:
            behind = tuple(done + (rest[:1] == [symbol]) for rest, done in zip(rests, front))
            if behind not in heights or heights[front] > prices[symbol] + heights[behind]:
                return False
    return heights[(0,) * len(rows)] >= claim


def random_rows(source):
    """Prices and a few short rows."""
    prices = [source.randint(1, 6) for _ in range(source.randint(1, 3))]
    rows = [[source.randint(0, len(prices) - 1) for _ in range(source.randint(0, 4))]
            for _ in range(source.randint(0, 3))]
    return prices, rows


class FrontsTest(unittest.TestCase):
    def test_heights(self):
        self.assertEqual(front_heights(PRICES, ROWS), HEIGHTS)

    def test_only_reachable_fronts(self):
        self.assertEqual(front_heights([4], [[0, 0], [0]]), {(0, 0): 8, (1, 1): 4, (2, 1): 0})

    def test_equal_rows(self):
        self.assertEqual(front_heights([4, 1], [[0, 1], [0, 1]]),
                         {(0, 0): 5, (1, 1): 1, (2, 2): 0})
        self.assertEqual(least_row([4, 1], [[0, 1], [0, 1], [0, 1]]), (5, [0, 1]))

    def test_empty_rows(self):
        self.assertEqual(front_heights([4], [[], [0], []]), {(0, 0, 0): 4, (0, 1, 0): 0})
        self.assertEqual(least_row([4], [[], [0], []]), (4, [0]))
        self.assertEqual(front_heights([4], [[], []]), {(0, 0): 0})
        self.assertEqual(least_row([4], [[]]), (0, []))

    def test_no_rows(self):
        self.assertEqual(front_heights([4], []), {(): 0})
        self.assertEqual(front_heights([], []), {(): 0})
        self.assertEqual(least_row([4], []), (0, []))
        self.assertIs(check_heights([4], [], {(): 0}, 0), True)
        self.assertIs(check_heights([4], [], {(): 1}, 0), False)
        self.assertIs(check_heights([4], [], {(): -2}, -2), True)
        self.assertIs(check_heights([4], [], {(): -2}, -1), False)
        self.assertIs(check_heights([4], [], {}, -1), False)

    def test_least_symbols_of_the_least_row(self):
        self.assertEqual(least_row(PRICES, ROWS), (7, [0, 1, 0]))
        self.assertEqual(least_row([3, 2], ROWS), (7, [1, 0, 1]))
        self.assertEqual(least_row([2, 2], ROWS), (6, [0, 1, 0]))
        # Both ends may come first; a price decides nothing between lists that cost the same.
        self.assertEqual(least_row([9, 1, 1], [[2, 0], [1, 0]]), (11, [1, 2, 0]))

    def test_product_of_the_lengths(self):
        just = ([[0] * 4999], [[0] * 49, [0] * 99], [[0] * 4, [0] * 999], [[0], [], [0] * 2499, []])
        above = ([[0] * 5000], [[0] * 49, [0] * 100], [[0], [0] * 2500], [[0]] * 13, [[0] * 4000] * 60)
        for rows in just:
            bill = max(len(row) for row in rows)
            heights = front_heights([1], rows)
            self.assertEqual(heights[(0,) * len(rows)], bill)
            self.assertEqual(least_row([1], rows), (bill, [0] * bill))
            self.assertIs(check_heights([1], rows, heights, bill), True)
        for rows in above:
            for call in (lambda: front_heights([1], rows), lambda: least_row([1], rows),
                         lambda: check_heights([1], rows, {}, 0)):
                with self.assertRaises(TooLarge):
                    call()

    def test_against_slow_heights(self):
        source = Random(13)
        for _ in range(120):
            prices, rows = random_rows(source)
            heights = slow_heights(prices, rows)
            self.assertEqual(front_heights(prices, rows), heights)
            bill, symbols = least_row(prices, rows)
            self.assertEqual(bill, heights[(0,) * len(rows)])
            self.assertEqual(symbols, min(all_least(prices, rows, bill)))
            self.assertTrue(all(contains(symbols, row) for row in rows))
            self.assertIs(check_heights(prices, rows, heights, bill), True)
            self.assertIs(check_heights(prices, rows, heights, bill + 1), False)

    def test_lists_stay_and_are_new(self):
        prices, rows = [2, 3], [[0, 1], [1, 0]]
        front_heights(prices, rows).clear()
        least_row(prices, rows)[1].clear()
        heights = dict(HEIGHTS)
        check_heights(prices, rows, heights, 7)
        self.assertEqual((prices, rows, heights), ([2, 3], [[0, 1], [1, 0]], HEIGHTS))
        self.assertEqual(front_heights(prices, rows), HEIGHTS)
        self.assertEqual(least_row(prices, rows), (7, [0, 1, 0]))


class CheckHeightsTest(unittest.TestCase):
    def check(self, changes, claim=7):
        heights = {**HEIGHTS, **changes}
        return check_heights(PRICES, ROWS, heights, claim)

    def test_true_heights(self):
        self.assertIs(self.check({}), True)
        self.assertIs(self.check({}, 6), True)
        self.assertIs(self.check({}, -5), True)

    def test_claim(self):
        self.assertIs(self.check({}, 8), False)
        self.assertIs(self.check({(0, 0): 6}), False)
        self.assertIs(self.check({(0, 0): 6}, 6), True)

    def test_each_front_is_a_key(self):
        for front in HEIGHTS:
            heights = {key: HEIGHTS[key] for key in HEIGHTS if key != front}
            self.assertIs(check_heights(PRICES, ROWS, heights, 7), False, front)
            self.assertIs(check_heights(PRICES, ROWS, heights, -99), False, front)
        self.assertIs(check_heights(PRICES, ROWS, {}, 0), False)

    def test_the_end_has_at_most_0(self):
        self.assertIs(self.check({(2, 2): 1}), False)
        lower = {front: HEIGHTS[front] - 4 for front in HEIGHTS}
        self.assertIs(self.check(lower, 3), True)
        self.assertIs(self.check(lower, 4), False)

    def test_no_front_is_too_high(self):
        self.assertIs(self.check({(0, 0): 8}), False)
        self.assertIs(self.check({(1, 0): 6}), False)
        self.assertIs(self.check({(0, 1): 6}), False)
        self.assertIs(self.check({(2, 1): 3}), False)
        self.assertIs(self.check({(1, 2): 4}), False)
        # A front must be low enough for each symbol, not for the best one alone.
        self.assertIs(self.check({(2, 1): -10}), False)
        self.assertIs(self.check({(2, 1): -10, (1, 0): -7, (0, 0): -5}, -5), True)
        self.assertIs(self.check({(2, 1): -10, (1, 0): -7, (0, 0): -5}, -4), False)

    def test_other_keys_do_not_matter(self):
        others = {(1, 1): 10 ** 12, (0,): 5, (): 7, (-1, 0): 9, (3, 3): 1, (0, 0, 0): 8, 4: 1}
        self.assertIs(self.check(others), True)
        self.assertIs(self.check({**others, (2, 2): 1}), False)

    def test_against_slow_checks(self):
        source = Random(14)
        told = {True: 0, False: 0}
        for _ in range(300):
            prices, rows = random_rows(source)
            heights = front_heights(prices, rows)
            bill = heights[(0,) * len(rows)]
            for _ in range(source.randint(0, 2)):
                front = source.choice(sorted(heights))
                heights[front] += source.randint(-2, 1)
                if source.randint(0, 9) == 0:
                    del heights[front]
                if not heights:
                    break
            claim = bill + source.randint(-2, 0)
            if (0,) * len(rows) in heights:
                answer = slow_check(prices, rows, heights, claim)
                told[answer] += 1
                self.assertIs(check_heights(prices, rows, heights, claim), answer)
        self.assertGreater(min(told.values()), 30)


if __name__ == "__main__":
    unittest.main()
