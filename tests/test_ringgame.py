"""Points 71 to 73: the ring game."""

import unittest
from functools import lru_cache
from itertools import product
from random import Random

from foreworth.errors import TooLarge
from foreworth.laying import least_laying
from foreworth.ringgame import RingGame
from foreworth.rings import Ring

# The cost of all doors is 3.
TWO = Ring([4, 3], [0, 1])


class SlowGame:
    """The ring game as points 71 and 72 say it, by calls inside of calls."""

    def __init__(self, ring, longest, sight):
        self.ring = ring
        self.longest = longest
        self.sight = sight

    def is_known(self, done, length):
        return length <= done + self.sight

    def pairs(self, done):
        """What may be known of a lane that has executed so many nodes."""
        known = [(done, length) for length in range(max(1, done), self.longest + 1)
                 if self.is_known(done, length)]
        unknown = [length for length in range(max(1, done), self.longest + 1)
                   if not self.is_known(done, length)]
        return known + [(done, 0)] * bool(unknown)

    def starts(self):
        return sorted(product(*[self.pairs(0) for _ in self.ring.doors]))

    def place(self, lane, pair):
        if pair[1] and pair[0] == pair[1]:
            return None
        return (self.ring.doors[lane] + pair[0]) % self.ring.size

    def moves(self, state):
        return sorted({self.place(lane, pair) for lane, pair in enumerate(state)} - {None})

    def follows(self, pair, later):
        """Whether a lane may come from one pair to the other by executing a node."""
        if pair[1]:
            return later == (pair[0] + 1, pair[1])
        # Lengths that were not known are longer than what was known to be possible.
        return later in self.pairs(pair[0] + 1) and (
            later[1] == 0 or not self.is_known(pair[0], later[1]))

    def replies(self, state, move):
        choices = []
        for lane, pair in enumerate(state):
            if self.place(lane, pair) == move:
                choices.append([later for later in self.pairs(pair[0] + 1)
                                if self.follows(pair, later)] or [(pair[0] + 1, pair[1])])
            else:
                choices.append([pair])
        return sorted(product(*choices))

    @lru_cache(maxsize=None)
    def value_of(self, state):
        if not self.moves(state):
            stays = [(door, length) for door, (_, length) in zip(self.ring.doors, state)]
            return -least_laying(self.ring, stays)[0]
        return min(self.value_behind(state, move) for move in self.moves(state))

    def value_behind(self, state, move):
        return self.ring.prices[move] + max(map(self.value_of, self.replies(state, move)))


def all_states(game):
    """All states that can come up, found by the answers of the game itself."""
    met = set(game.starts())
    ahead = list(met)
    while ahead:
        state = ahead.pop()
        for move in game.moves(state):
            for reply in game.replies(state, move):
                if reply not in met:
                    met.add(reply)
                    ahead.append(reply)
    return met


def small_games(many, seed):
    """Rings, longest stays and sights of games that are not too large."""
    source = Random(seed)
    found = []
    while len(found) < many:
        size = source.randint(1, 5)
        prices = [source.randint(1, 6) for _ in range(size)]
        doors = sorted(source.sample(range(size), source.randint(1, min(3, size))))
        longest, sight = source.randint(1, 7), source.randint(0, 9)
        if (longest * (sight + 2)) ** len(doors) <= 3000:
            found.append((Ring(prices, doors), longest, sight))
    return found


class RingGameTest(unittest.TestCase):
    def test_starts_by_sight(self):
        starts = {0: [0], 1: [0, 1], 2: [0, 1, 2], 3: [1, 2, 3], 4: [1, 2, 3]}
        for sight, lengths in starts.items():
            game = RingGame(Ring([4, 3], [1]), 3, sight=sight)
            self.assertEqual(game.starts(), [((0, length),) for length in lengths])
            game = RingGame(TWO, 3, sight=sight)
            self.assertEqual(game.starts(), [((0, first), (0, second))
                                             for first in lengths for second in lengths])
        self.assertEqual(RingGame(TWO, 1).starts(), [((0, 0), (0, 0))])

    def test_moves(self):
        game = RingGame(Ring([4, 3, 1], [0, 1]), 4)
        self.assertEqual(game.moves(((0, 0), (0, 0))), [0, 1])
        self.assertEqual(game.moves(((1, 0), (0, 0))), [1])
        self.assertEqual(game.moves(((2, 0), (2, 0))), [0, 2])
        self.assertEqual(game.moves(((3, 0), (2, 2))), [0])
        self.assertEqual(game.moves(((3, 3), (2, 2))), [])

    def test_a_length_that_is_not_known_is_no_end(self):
        game = RingGame(TWO, 2)
        self.assertEqual(game.moves(((0, 0), (1, 1))), [0])
        self.assertEqual(game.replies(((0, 0), (1, 1)), 0), [((1, 0), (1, 1)), ((1, 1), (1, 1))])

    def test_replies(self):
        game = RingGame(TWO, 3)
        self.assertEqual(game.replies(((0, 0), (0, 0)), 0), [((1, 0), (0, 0)), ((1, 1), (0, 0))])
        self.assertEqual(game.replies(((1, 0), (0, 0)), 1),
                         [((2, 0), (1, 0)), ((2, 0), (1, 1)), ((2, 2), (1, 0)), ((2, 2), (1, 1))])
        # Behind two nodes the third one is sure to be the last.
        self.assertEqual(game.replies(((2, 0), (1, 1)), 0), [((3, 3), (1, 1))])
        game = RingGame(TWO, 4, sight=2)
        self.assertEqual(game.replies(((0, 0), (0, 2)), 0), [((1, 0), (0, 2)), ((1, 3), (0, 2))])
        self.assertEqual(game.replies(((1, 0), (0, 2)), 1), [((2, 4), (1, 2))])
        self.assertEqual(game.replies(((0, 1), (1, 2)), 0), [((1, 1), (2, 2))])

    def test_a_small_game(self):
        game = RingGame(TWO, 2)
        self.assertEqual(game.value(), game.value_of(((0, 0), (0, 0))))
        self.assertEqual(game.value_of(((1, 1), (1, 1))), -7)
        self.assertEqual(game.value_of(((2, 2), (2, 2))), -10)
        self.assertEqual(game.value_of(((2, 2), (1, 1))), -7)
        self.assertEqual(game.value_of(((1, 0), (1, 1))), 3 - 7)
        # Both stand at position 1; then lane 1 may end, or go on to position 0.
        self.assertEqual(game.value_of(((1, 0), (0, 0))), 3 + max(-7, 4 - 10))
        self.assertEqual(RingGame(TWO, 4).value(), 3)

    def test_against_the_slow_game(self):
        for ring, longest, sight in small_games(150, 1):
            game = RingGame(ring, longest, sight=sight)
            slow = SlowGame(ring, longest, sight)
            self.assertEqual(game.starts(), slow.starts())
            self.assertEqual(game.value(), max(map(slow.value_of, slow.starts())))
            for state in all_states(game):
                self.assertEqual(game.moves(state), slow.moves(state))
                self.assertEqual(game.value_of(state), slow.value_of(state))
                for move in game.moves(state):
                    replies = game.replies(state, move)
                    self.assertEqual(replies, slow.replies(state, move))
                    values = [slow.value_of(reply) for reply in replies]
                    self.assertEqual(game.best_reply(state, move),
                                     replies[values.index(max(values))])
                if game.moves(state):
                    values = [slow.value_behind(state, move) for move in game.moves(state)]
                    self.assertEqual(game.best_move(state),
                                     game.moves(state)[values.index(min(values))])

    def test_best_moves_and_replies_where_several_reach_the_value(self):
        moves = replies = 0
        for ring, longest, sight in small_games(60, 2):
            game = RingGame(ring, longest, sight=sight)
            for state in all_states(game):
                for move in game.moves(state):
                    values = [game.value_of(reply) for reply in game.replies(state, move)]
                    replies += values.count(max(values)) > 1 and values[-1] == max(values)
                if len(game.moves(state)) > 1:
                    values = [ring.prices[move] + game.value_of(game.best_reply(state, move))
                              for move in game.moves(state)]
                    moves += values.count(min(values)) > 1
                    self.assertEqual(values.index(min(values)),
                                     game.moves(state).index(game.best_move(state)))
        # There are such states among them.
        self.assertGreater(moves, 50)
        self.assertGreater(replies, 50)

    def test_the_best_play_is_worth_the_value(self):
        for ring, longest, sight in small_games(60, 3):
            game = RingGame(ring, longest, sight=sight)
            state = max(game.starts(), key=game.value_of)
            bill = 0
            while game.moves(state):
                move = game.best_move(state)
                bill += ring.prices[move]
                state = game.best_reply(state, move)
            stays = [(door, length) for door, (_, length) in zip(ring.doors, state)]
            self.assertEqual(bill - least_laying(ring, stays)[0], game.value())

    def test_too_large(self):
        one = Ring([1, 2], [1])
        self.assertEqual(RingGame(one, 10000).value(), 0)
        self.assertEqual(RingGame(one, 1, sight=19998).value(), 0)
        for longest, sight in ((10001, 0), (1, 19999), (5000, 3), (1, 10 ** 9), (10 ** 9, 0)):
            with self.assertRaises(TooLarge):
                RingGame(one, longest, sight=sight)
        # 141 squared is below 20000, 142 squared is above.
        self.assertEqual(RingGame(TWO, 3, sight=45).value(), 0)
        with self.assertRaises(TooLarge):
            RingGame(TWO, 71)
        many = list(range(14))
        self.assertEqual(RingGame(Ring([1] * 14, many), 1).value(), 0)
        with self.assertRaises(TooLarge):
            RingGame(Ring([1] * 15, list(range(15))), 1)
        with self.assertRaises(TooLarge):
            RingGame(Ring([1] * 60, list(range(60))), 4000, sight=50)

    def test_just_at_20000(self):
        # 5000 * 4 and 2500 * 8 are 20000.
        self.assertEqual(len(RingGame(Ring([1], [0]), 5000, sight=2).starts()), 3)
        self.assertEqual(len(RingGame(Ring([1], [0]), 2500, sight=6).starts()), 7)
        with self.assertRaises(TooLarge):
            RingGame(Ring([1], [0]), 4001, sight=3)

    def test_a_ring_with_one_door(self):
        for longest, sight in ((1, 0), (6, 0), (6, 2), (6, 6), (6, 9)):
            game = RingGame(Ring([5, 2, 3], [1]), longest, sight=sight)
            self.assertEqual(game.value(), 0)
            for state in all_states(game):
                places = [] if 0 < state[0][0] == state[0][1] else [(1 + state[0][0]) % 3]
                self.assertEqual(game.moves(state), places)

    def test_facts(self):
        for ring in (TWO, Ring([1, 2, 3], [0, 2]), Ring([2, 1], [0, 1]), Ring([1, 1, 1], [0, 1, 2]),
                     Ring([5], [0]), Ring([3, 1, 1], [1])):
            for sight in (0, 1, 2):
                values = []
                for longest in range(1, 2 * ring.size + sight + 2):
                    if (longest * (sight + 2)) ** len(ring.doors) <= 20000:
                        values.append(RingGame(ring, longest, sight=sight).value())
                self.assertEqual(values, sorted(values))
                self.assertLessEqual(max(values), ring.cost())
                if len(values) > 2 * ring.size + sight:
                    self.assertEqual(values[2 * ring.size + sight - 1:], [ring.cost()] * 2)

    def test_sight_makes_the_value_no_higher(self):
        for ring, longest, _ in small_games(40, 4):
            values = []
            for sight in range(8):
                if (longest * (sight + 2)) ** len(ring.doors) <= 3000:
                    values.append(RingGame(ring, longest, sight=sight).value())
            self.assertEqual(values, sorted(values, reverse=True))

    def test_questions_change_nothing(self):
        game = RingGame(TWO, 3, sight=1)
        for _ in range(2):
            state = game.starts()[0]
            self.assertEqual(state, ((0, 0), (0, 0)))
            self.assertEqual(game.value(), RingGame(TWO, 3, sight=1).value())
            for found in (game.starts(), game.moves(state), game.replies(state, 0)):
                found.clear()
            self.assertEqual(game.moves(state), [0, 1])
            self.assertEqual(len(game.replies(state, 0)), 2)
            self.assertEqual(game.best_move(state), RingGame(TWO, 3, sight=1).best_move(state))

    def test_great_prices(self):
        ring = Ring([10 ** 9, 10 ** 9 - 1], [0, 1])
        self.assertEqual(RingGame(ring, 5).value(), 10 ** 9 - 1)


if __name__ == "__main__":
    unittest.main()
