"""The ring game: one lane for each door of a ring, and how long they stay."""

from foreworth.errors import TooLarge
from foreworth.laying import least_laying

MOST_STATES = 20000


class RingGame:
    """A game of a scheduler, who names positions, against the lengths of the stays."""

    def __init__(self, ring, longest, *, sight=0):
        check_states(len(ring.doors), longest * (sight + 2))
        self._ring = ring
        self._longest = longest
        self._sight = sight
        self._values = self._all_values()

    def starts(self):
        """The ascending list of the states in which nothing is executed."""
        known = [(0, length) for length in range(1, min(self._sight, self._longest) + 1)]
        pairs = [(0, 0), *known] if self._sight < self._longest else known
        return all_rows([pairs for door in self._ring.doors])

    def moves(self, state):
        """The ascending list of the positions at which lanes stand."""
        return sorted({place for place in self._positions(state) if place is not None})

    def replies(self, state, move):
        """The ascending list of the states to which a move may lead."""
        choices = []
        for pair, place in zip(state, self._positions(state)):
            choices.append(self._pairs_behind(pair) if place == move else [pair])
        return all_rows(choices)

    def value_of(self, state):
        """The least loss that the scheduler can make sure of from a state on."""
        return self._values[state]

    def value(self):
        """The least loss that the scheduler can make sure of."""
        return max([self._values[state] for state in self.starts()])

    def best_move(self, state):
        """The least move that reaches the value of a state."""
        moves = self.moves(state)
        reached = [self._value_behind(self._values, state, move) for move in moves]
        return moves[reached.index(self._values[state])]

    def best_reply(self, state, move):
        """The first reply to a move with the greatest value."""
        replies = self.replies(state, move)
        values = [self._values[reply] for reply in replies]
        return replies[values.index(max(values))]

    def _positions(self, state):
        """The list with, for each lane, the position at which it stands, or None."""
        # Before the first move, an unknown length equals what is done, but it is no end.
        return [None if 0 < done == length else (door + done) % self._ring.size
                for door, (done, length) in zip(self._ring.doors, state)]

    def _pairs_behind(self, pair):
        """The ascending list of what may become of a lane that executes a node."""
        done = pair[0] + 1
        if pair[1] > 0:
            return [(done, pair[1])]
        if done + self._sight < self._longest:
            return [(done, 0), (done, done + self._sight)]
        return [(done, done + self._sight)]

    def _all_values(self):
        """A dict from all states that can come up to their values."""
        values = {}
        # Each reply has more executed nodes than the state that it belongs to.
        for state in sorted(self._all_states(), key=executed_nodes, reverse=True):
            moves = self.moves(state)
            if moves:
                values[state] = min([self._value_behind(values, state, move) for move in moves])
            else:
                values[state] = -self._least_bill(state)
        return values

    def _value_behind(self, values, state, move):
        """The price of a move and the greatest value of a reply to it."""
        replies = self.replies(state, move)
        return self._ring.prices[move] + max([values[reply] for reply in replies])

    def _least_bill(self, state):
        """The price of the least laying of the stays, where all lanes have ended."""
        stays = [(door, length) for door, (_, length) in zip(self._ring.doors, state)]
        return least_laying(self._ring, stays)[0]

    def _all_states(self):
        """The list of all states that can come up."""
        met = {state: True for state in self.starts()}
        ahead = list(met)
        while ahead:
            state = ahead.pop()
            for move in self.moves(state):
                for reply in self.replies(state, move):
                    if reply not in met:
                        met[reply] = True
                        ahead.append(reply)
        return list(met)


def check_states(lanes, most):
    """Raise TooLarge if so many lanes with `most` pairs each have too many states."""
    many = 1
    for _ in range(lanes):
        many = many * most
        if many > MOST_STATES:
            raise TooLarge()


def executed_nodes(state):
    """The number of nodes that the lanes have executed together."""
    return sum([done for done, _ in state])


def all_rows(choices):
    """The list of all tuples with one of each of the choices, in their order."""
    rows = [()]
    for pairs in choices:
        rows = [(*row, pair) for row in rows for pair in pairs]
    return rows
