"""Points 28 and 29: schedules."""

import unittest
from random import Random

from foreworth.errors import Incomplete
from foreworth.schedules import is_complete, prefixes, thin


def slow_thin(runs, schedule):
    """Thinning as point 29 says it."""
    kept = []
    for place, node in enumerate(schedule):
        if not is_complete(runs, kept + schedule[place + 1:]):
            kept.append(node)
    return kept


class SchedulesTest(unittest.TestCase):
    def test_examples_of_the_interface(self):
        self.assertEqual(prefixes([[0, 1, 2], [0, 2]], [0, 2, 1]), [2, 2])
        self.assertEqual(thin([[0, 1], [0, 2]], [0, 1, 2, 1]), [0, 2, 1])

    def test_prefixes(self):
        self.assertEqual(prefixes([], [1, 2]), [])
        self.assertEqual(prefixes([[], [1], [1, 1], [2, 1]], []), [0, 0, 0, 0])
        self.assertEqual(prefixes([[], [1], [1, 1], [2, 1]], [1, 2, 5]), [0, 1, 1, 1])
        self.assertEqual(prefixes([[-1, 7]], [-1, 3, 7, 7]), [2])

    def test_complete(self):
        self.assertIs(is_complete([[0, 1], [0, 2]], [0, 2, 1]), True)
        self.assertIs(is_complete([[0, 1], [0, 2]], [9, 0, 2, 2, 1, 3]), True)
        self.assertIs(is_complete([[0, 1], [0, 2]], [0, 1]), False)
        self.assertIs(is_complete([[0, 1]], [1, 0]), False)
        self.assertIs(is_complete([[0, 1, 1]], [0, 1]), False)
        self.assertIs(is_complete([], []), True)
        self.assertIs(is_complete([[]], []), True)
        self.assertIs(is_complete([[0]], []), False)

    def test_thin_drops_from_the_first_beat_on(self):
        self.assertEqual(thin([[1, 2]], [1, 2, 1, 2]), [1, 2])
        self.assertEqual(thin([[1, 2, 3]], [1, 2, 1, 3, 2, 3]), [1, 2, 3])
        # The first beat at 1 is kept for lane 0, and then lane 1 has moved by it, too.
        self.assertEqual(thin([[1, 2, 1], [1, 3]], [1, 3, 2, 1, 3]), [1, 2, 1, 3])
        self.assertEqual(thin([[5], [6]], [6, 5]), [6, 5])

    def test_thin_drops_idle_beats(self):
        self.assertEqual(thin([[0, 1]], [9, 0, 9, 1, 9]), [0, 1])
        self.assertEqual(thin([], [1, 2]), [])
        self.assertEqual(thin([[], []], [1, 2]), [])

    def test_incomplete(self):
        for runs, schedule in (([[0]], []), ([[0, 1], [0, 2]], [0, 1]), ([[1, 1]], [1])):
            with self.assertRaises(Incomplete):
                thin(runs, schedule)

    def test_against_slow_thinning(self):
        source = Random(7)
        for _ in range(300):
            runs = [[source.randint(0, 2) for _ in range(source.randint(0, 4))]
                    for _ in range(source.randint(0, 4))]
            schedule = [source.randint(0, 2) for _ in range(source.randint(0, 20))]
            if is_complete(runs, schedule):
                found = thin(runs, schedule)
                self.assertEqual(found, slow_thin(runs, schedule))
                for place in range(len(found)):
                    self.assertFalse(is_complete(runs, found[:place] + found[place + 1:]))
            else:
                with self.assertRaises(Incomplete):
                    thin(runs, schedule)

    def test_long_schedules(self):
        run = [0, 1, 2, 3] * 1000
        schedule = [node for node in run for _ in range(5)]
        self.assertEqual(thin([run] * 60, schedule), run)

    def test_arguments_stay(self):
        runs, schedule = [[0, 1], [0, 2]], [0, 1, 2, 1]
        thin(runs, schedule).clear()
        prefixes(runs, schedule).clear()
        self.assertEqual((runs, schedule), ([[0, 1], [0, 2]], [0, 1, 2, 1]))
        self.assertEqual(thin(runs, schedule), [0, 2, 1])


if __name__ == "__main__":
    unittest.main()
