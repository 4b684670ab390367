"""Control in program texts, followed from line to line, to compare the program with.

It knows nothing of trees: a place is the index of a line, or the number of lines.
"""


class Lines:
    """The lines of a text without faults, and for each line its blocks."""

    def __init__(self, text):
        self.lines = [line.split(" ") for line in text.split("\n")]
        self.arms = {}
        self.ends = {}
        self.blocks = []
        self.marks = {}
        self.find_blocks()

    def find_blocks(self):
        trail = []
        for place, parts in enumerate(self.lines):
            self.blocks.append(list(trail))
            if parts[0] in ("loop", "choose"):
                trail.append(place)
                self.arms[place] = []
            elif parts[0] == "arm":
                self.arms[trail[-1]].append(place)
            elif parts[0] == "close":
                self.ends[trail.pop()] = place
            elif parts[0] == "mark":
                self.marks[parts[1]] = place

    def at_rest(self, place):
        """Whether control stays at the place until a node is executed."""
        return place == len(self.lines) or self.lines[place][0] in ("do", "choose")

    def move(self, place):
        """The next place behind one at which control does not rest."""
        kind = self.lines[place][0]
        if kind == "stop":
            return len(self.lines)
        if kind == "jump":
            return self.marks[self.lines[place][1]]
        if kind == "arm":
            return self.ends[self.blocks[place][-1]] + 1
        if kind == "close" and self.lines[self.blocks[place][-1]][0] == "loop":
            return self.blocks[place][-1] + 1
        if kind in ("leave", "again"):
            loop = [line for line in self.blocks[place] if self.lines[line][0] == "loop"][-1]
            return loop + 1 if kind == "again" else self.ends[loop] + 1
        return place + 1

    def rest(self, place):
        """The place at which control comes to rest, or None if it never does."""
        met = []
        while not self.at_rest(place):
            if place in met:
                return None
            met.append(place)
            place = self.move(place)
        return place

    def statements(self):
        """The places of all statements."""
        return [place for place, parts in enumerate(self.lines) if parts[0] not in ("arm", "close")]

    def walk(self, choices, limit):
        """The log of a lane and whether it has ended."""
        log = []
        left = list(choices)
        place = self.rest(0)
        while place < len(self.lines) and len(log) < limit:
            kind, word, price = self.lines[place]
            following = [place + 1]
            if kind == "choose":
                following = [arm + 1 for arm in self.arms[place]]
            ways = len(following)
            log.append((word, int(price), ways))
            way = left.pop(0) % ways if ways > 1 and left else 0
            place = self.rest(following[way])
        return log, place == len(self.lines)
