"""The lines of a journal: deeds of a desk, written and read."""

from foreworth.graph import END
from foreworth.words import is_word

# The number of parts of each kind of line; the text of a program counts as one.
PARTS = {
    "enter": 3, "drop": 2, "price": 4, "edge": 4, "cut": 4, "team": 4, "undo": 1, "redo": 1,
}
MOST_DIGITS = 10


def write_deed(deed):
    """The line of a deed."""
    kind = deed[0]
    if kind == "enter":
        parts = [*deed[:2], deed[2].replace("\n", ";")]
    elif kind == "team":
        parts = [*deed[:3], write_rows(deed[3])]
    elif kind == "edge" and deed[3] == END:
        parts = [*deed[:2], str(deed[2]), "end"]
    else:
        parts = [str(part) for part in deed]
    return " ".join(parts)


def write_rows(rows):
    """The part of a line that tells the rows of a team."""
    if not rows:
        return "none"
    return ";".join([",".join([str(number) for number in row]) or "-" for row in rows])


def read_deed(line):
    """The deed of a line, or None if the line has none of the forms."""
    kind = line.split(" ")[0]
    if kind not in PARTS or "\n" in line:
        return None
    # The text of a program may contain spaces, no other part does.
    parts = line.split(" ", 2) if kind == "enter" else line.split(" ")
    if len(parts) != PARTS[kind]:
        return None
    if len(parts) > 1 and not is_word(parts[1]):
        return None
    if kind == "enter":
        return (kind, parts[1], parts[2].replace(";", "\n")) if parts[2] else None
    if kind == "team":
        return read_team(parts)
    if len(parts) == 4:
        return read_change(parts)
    return tuple(parts)


def read_team(parts):
    """The deed of putting a team, or None."""
    rows = read_rows(parts[3])
    if rows is None or not is_word(parts[2]):
        return None
    return (parts[0], parts[1], parts[2], rows)


def read_rows(text):
    """The rows of a team, or None."""
    if text == "none":
        return []
    rows = []
    for part in text.split(";"):
        row = [] if part == "-" else [read_number(digits) for digits in part.split(",")]
        if None in row:
            return None
        rows.append(row)
    return rows


def read_change(parts):
    """The deed of a change of a graph, which has two numbers, or None."""
    kind, name, node, other = parts
    first = read_number(node)
    second = END if kind == "edge" and other == "end" else read_number(other)
    if first is None or second is None:
        return None
    return (kind, name, first, second)


def read_number(text):
    """The number, or None if the text is none of a journal."""
    if not 1 <= len(text) <= MOST_DIGITS or (text[0] == "0" and text != "0"):
        return None
    return int(text) if all("0" <= digit <= "9" for digit in text) else None
