"""Printing trees as program texts."""


def show(tree):
    """The text of a tree."""
    return "\n".join(lines_of(tree))


def lines_of(tree):
    """The list of the lines of a tree."""
    lines = []
    for statement in tree:
        kind = statement[0]
        if kind == "choose":
            lines.append(f"choose {statement[1]} {statement[2]}")
            for arm in statement[3]:
                lines.append("arm")
                lines.extend(lines_of(arm))
            lines.append("close")
        elif kind == "loop":
            lines.append("loop")
            lines.extend(lines_of(statement[1]))
            lines.append("close")
        else:
            lines.append(" ".join([str(part) for part in statement]))
    return lines
