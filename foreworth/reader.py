"""Reading program texts into trees."""

from foreworth.errors import BadLine, DuplicateMark, Misplaced, NoMark, TooDeep, Unclosed
from foreworth.words import is_price, is_word

# The number of parts of each kind of line.
PARTS = {
    "do": 3, "choose": 3, "arm": 1, "close": 1, "loop": 1,
    "leave": 1, "again": 1, "mark": 2, "jump": 2, "stop": 1,
}
MOST_BLOCKS = 12
MOST_ARMS = 4


def read(text):
    """The tree of a program text."""
    reader = Reader()
    for line, words in enumerate(text.split("\n"), start=1):
        reader.take(line, words)
    return reader.finish()


def parse_line(words):
    """The parts of a line, its price as a number, or None if it has none of the forms."""
    parts = words.split(" ")
    if PARTS.get(parts[0]) != len(parts):
        return None
    if len(parts) > 1 and not is_word(parts[1]):
        return None
    if len(parts) < 3:
        return tuple(parts)
    if not is_price(parts[2]):
        return None
    return (parts[0], parts[1], int(parts[2]))


class Block:
    """A block that is not closed yet; the text as a whole is one, too."""

    def __init__(self, line, head):
        self.line = line
        self.head = head
        self.kind = head[0]
        self.bodies = []


class Reader:
    """What has been read of a text so far."""

    def __init__(self):
        whole = Block(0, ("text",))
        whole.bodies.append([])
        self._blocks = [whole]
        self._marks = {}
        self._jumps = []

    def take(self, line, words):
        """Read the next line, or raise its first error."""
        parts = parse_line(words)
        if parts is None:
            raise BadLine(line)
        kind = parts[0]
        if self._is_misplaced(kind):
            raise Misplaced(line)
        # The text itself is a block here, but it does not count.
        if kind in ("loop", "choose") and len(self._blocks) - 1 >= MOST_BLOCKS:
            raise TooDeep(line)
        if kind == "mark" and parts[1] in self._marks:
            raise DuplicateMark(line)
        self._place(line, parts)

    def finish(self):
        """The tree behind the last line, or the errors of the whole text."""
        if len(self._blocks) > 1:
            raise Unclosed(self._blocks[-1].line)
        for line, name in self._jumps:
            if name not in self._marks:
                raise NoMark(line)
        return tuple(self._blocks[0].bodies[0])

    def _is_misplaced(self, kind):
        """Tell whether a line of that kind may not come next."""
        inner = self._blocks[-1]
        if inner.kind == "choose" and not inner.bodies:
            return kind != "arm"
        if kind == "arm":
            return inner.kind != "choose" or len(inner.bodies) == MOST_ARMS
        if kind == "close":
            return inner.kind == "text" or (inner.kind == "choose" and len(inner.bodies) < 2)
        if kind in ("leave", "again"):
            return all([block.kind != "loop" for block in self._blocks])
        return False

    def _place(self, line, parts):
        """Put a line without faults where it belongs."""
        kind = parts[0]
        if kind in ("loop", "choose"):
            self._enter(line, parts)
        elif kind == "arm":
            self._blocks[-1].bodies.append([])
        elif kind == "close":
            self._add(closed(self._blocks.pop()))
        else:
            if kind == "mark":
                self._marks[parts[1]] = True
            if kind == "jump":
                self._jumps.append((line, parts[1]))
            self._add(parts)

    def _enter(self, line, parts):
        """Begin a block; a loop has its one body at once, a choose gets its arms later."""
        block = Block(line, parts)
        if block.kind == "loop":
            block.bodies.append([])
        self._blocks.append(block)

    def _add(self, statement):
        """Put a statement at the end of what is being read."""
        self._blocks[-1].bodies[-1].append(statement)


def closed(block):
    """The statement of a block that has been closed."""
    trees = tuple([tuple(body) for body in block.bodies])
    if block.kind == "loop":
        return ("loop", trees[0])
    return (*block.head, trees)
