"""Points 30 to 32: least bills in a ring."""

import unittest
from random import Random

from foreworth.errors import BadStay
from foreworth.laying import least_laying, union_beats, union_price
from foreworth.rings import Ring
from tests.slow import cheapest_rows, contains


def laid(ring, stays, start):
    """The sorted numbers of the union, found one by one."""
    numbers = set()
    for door, length in stays:
        first = start
        while first % ring.size != door:
            first += 1
        numbers |= {first + step for step in range(length)}
    return sorted(numbers)


def row_of(ring, stay):
    """The positions that a stay executes."""
    return [(stay[0] + step) % ring.size for step in range(stay[1])]


class LayingTest(unittest.TestCase):
    def setUp(self):
        self.ring = Ring([2, 3, 5, 1], [0, 2, 3])

    def test_example_of_the_interface(self):
        self.assertEqual(least_laying(Ring([1, 1], [0, 1]), [(0, 2), (1, 3)]), (3, 1))

    def test_stays_that_overlap(self):
        stays = [(0, 3), (2, 2)]
        self.assertEqual(union_price(self.ring, stays, 0), 11)
        self.assertEqual(union_beats(self.ring, stays, 0), [0, 1, 2, 3])
        self.assertEqual(union_price(self.ring, stays, 2), 16)
        self.assertEqual(union_beats(self.ring, stays, 2), [2, 3, 0, 1, 2])
        self.assertEqual(least_laying(self.ring, stays), (11, 0))

    def test_stays_that_do_not_overlap(self):
        stays = [(0, 1), (2, 1)]
        self.assertEqual(union_price(self.ring, stays, 0), 7)
        self.assertEqual(union_beats(self.ring, stays, 0), [0, 2])
        self.assertEqual(union_beats(self.ring, stays, 2), [2, 0])

    def test_starts_that_are_no_doors(self):
        stays = [(0, 2), (2, 3)]
        # From position 1, the stay at 2 comes first and reaches the one at 0.
        self.assertEqual(union_beats(self.ring, stays, 1), [2, 3, 0, 1])
        self.assertEqual(union_price(self.ring, stays, 1), 11)
        self.assertEqual(union_beats(self.ring, [(0, 2)], 1), [0, 1])
        # A door at which no stay comes is a start, too.
        self.assertEqual(union_beats(self.ring, stays, 3), [0, 1, 2, 3, 0])
        # Only doors of the stays count for the least laying.
        self.assertEqual(least_laying(self.ring, [(2, 1)]), (5, 2))

    def test_stays_of_many_rounds(self):
        self.assertEqual(union_price(self.ring, [(2, 4000)], 0), 11000)
        self.assertEqual(union_price(self.ring, [(2, 4001)], 0), 11005)
        self.assertEqual(union_beats(self.ring, [(2, 4000)], 3), [2, 3, 0, 1] * 1000)
        self.assertEqual(least_laying(self.ring, [(0, 9), (2, 4000), (3, 1)]), (11000, 2))
        self.assertEqual(union_price(Ring([7], [0]), [(0, 4000), (0, 3)], 0), 28000)

    def test_ties_between_starts(self):
        self.assertEqual(least_laying(self.ring, [(3, 1), (0, 1), (2, 1)]), (8, 0))
        self.assertEqual(least_laying(self.ring, [(3, 1), (2, 1)]), (6, 2))
        self.assertEqual(least_laying(Ring([1, 1], [0, 1]), [(1, 2), (0, 2)]), (3, 0))

    def test_equal_stays(self):
        self.assertEqual(least_laying(self.ring, [(3, 3)] * 60), (6, 3))

    def test_no_stays(self):
        self.assertEqual(least_laying(self.ring, []), (0, None))
        self.assertEqual(union_price(self.ring, [], 1), 0)
        self.assertEqual(union_beats(self.ring, [], 1), [])

    def test_bad_stays(self):
        for stays, place in (
            ([(1, 1)], 0), ([(4, 1)], 0), ([(-1, 1)], 0), ([(-4, 1)], 0), ([(0, 0)], 0),
            ([(0, -3)], 0), ([(1, 0)], 0), ([(0, 1), (2, 5), (3, 0)], 2),
            ([(0, 1), (1, 5), (3, 0)], 1), ([(0, 1), (3, 0), (1, 5)], 1),
        ):
            with self.subTest(stays=stays):
                for call in (lambda: union_price(self.ring, stays, 0),
                             lambda: union_beats(self.ring, stays, 0),
                             lambda: least_laying(self.ring, stays)):
                    with self.assertRaises(BadStay) as caught:
                        call()
                    self.assertEqual(caught.exception.place, place)

    def test_lists_stay_and_are_new(self):
        stays = [(2, 3), (0, 1)]
        union_beats(self.ring, stays, 0).clear()
        least_laying(self.ring, stays)
        self.assertEqual(stays, [(2, 3), (0, 1)])
        self.assertEqual(union_beats(self.ring, stays, 0), [0, 2, 3, 0])

    def test_against_numbers_one_by_one(self):
        source = Random(11)
        for _ in range(400):
            size = source.randint(1, 5)
            prices = [source.randint(1, 9) for _ in range(size)]
            doors = sorted(source.sample(range(size), source.randint(1, size)))
            ring = Ring(prices, doors)
            stays = [(source.choice(doors), source.randint(1, 12))
                     for _ in range(source.randint(1, 4))]
            bills = {}
            for start in range(size):
                numbers = laid(ring, stays, start)
                beats = [number % size for number in numbers]
                self.assertEqual(union_beats(ring, stays, start), beats)
                bills[start] = sum(prices[place] for place in beats)
                self.assertEqual(union_price(ring, stays, start), bills[start])
                for stay in stays:
                    self.assertTrue(contains(beats, row_of(ring, stay)))
            met = {door for door, _ in stays}
            least = min(bills[door] for door in met)
            start = min(door for door in met if bills[door] == least)
            self.assertEqual(least_laying(ring, stays), (least, start))

    def test_nothing_is_cheaper(self):
        source = Random(12)
        for _ in range(150):
            size = source.randint(1, 4)
            prices = [source.randint(1, 5) for _ in range(size)]
            ring = Ring(prices, list(range(size)))
            stays = [(source.randint(0, size - 1), source.randint(1, 2 * size + 1))
                     for _ in range(source.randint(1, 3))]
            rows = [row_of(ring, stay) for stay in stays]
            self.assertEqual(least_laying(ring, stays)[0], cheapest_rows(prices, rows))


if __name__ == "__main__":
    unittest.main()
