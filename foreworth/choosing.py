"""Rows of choices that are used up one by one."""


class Chooser:
    """What is left of a row of choices."""

    def __init__(self, choices):
        self._choices = list(choices)
        self._taken = 0

    def take(self, ways):
        """The index of the way to go on; a single way takes no choice."""
        if ways == 1 or self._taken == len(self._choices):
            return 0
        self._taken += 1
        return self._choices[self._taken - 1] % ways
