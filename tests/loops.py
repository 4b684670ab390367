"""L23: a look for loops that change what they go over, for the test of the language.

Within a function, names that are assigned one another count as one thing, whichever
assignment comes first, as do the parts of a choice. A copy (`list(..)`) is another thing.
"""

import ast

CHANGING = set(
    "append clear extend insert pop remove reverse setdefault sort update add discard".split())
HEAPS = {"heappush", "heappop", "heapify", "heapreplace", "heappushpop"}
SEEN_THROUGH = {"enumerate", "zip", "reversed", "iter"}
VIEWS = {"items", "keys", "values"}


def changed_loops(tree):
    """The rows, in order, in which a loop or a comprehension changes what it goes over."""
    rows = set()
    for part in ast.walk(tree):
        if isinstance(part, ast.FunctionDef):
            rows |= changed_in(part)
    return sorted(rows)


def changed_in(function):
    """The rows of one function."""
    same = groups_of(function)
    rows = set()
    for loop in ast.walk(function):
        for over, inside in loops_at(loop):
            walked = {same.get(thing, thing) for thing in things(over)}
            for row, changed in changes(inside):
                if walked & {same.get(thing, thing) for thing in things(changed)}:
                    rows.add(row)
    return rows


def loops_at(part):
    """The pairs of what a loop or comprehension goes over and what is done in it."""
    if isinstance(part, ast.For):
        return [(part.iter, part.body)]
    if isinstance(part, (ast.ListComp, ast.SetComp, ast.GeneratorExp)):
        return [(one.iter, [part.elt, *one.ifs]) for one in part.generators]
    if isinstance(part, ast.DictComp):
        return [(one.iter, [part.key, part.value, *one.ifs]) for one in part.generators]
    return []


def things(value):
    """The texts of the names, attributes and items that a value may be."""
    if isinstance(value, ast.Attribute):
        # An attribute of that name of another object counts, too.
        return {"." + value.attr}
    if isinstance(value, (ast.Name, ast.Subscript)):
        return {ast.unparse(value)}
    if isinstance(value, ast.IfExp):
        return things(value.body) | things(value.orelse)
    if isinstance(value, ast.BoolOp):
        return set().union(*[things(part) for part in value.values])
    if isinstance(value, ast.Call):
        called = value.func
        if isinstance(called, ast.Name) and called.id in SEEN_THROUGH:
            return set().union(*[things(part) for part in value.args])
        if isinstance(called, ast.Attribute) and called.attr in VIEWS:
            return things(called.value)
    return set()


def groups_of(function):
    """A dict from each thing that is assigned another one to the name of their group."""
    same = {}
    for part in ast.walk(function):
        if isinstance(part, ast.Assign):
            for target in part.targets:
                for one, other in pairs(target, part.value):
                    join(same, things(one) | things(other))
    return same


def pairs(target, value):
    """The pairs of a target and a value of an assignment."""
    if isinstance(target, ast.Tuple):
        if isinstance(value, ast.Tuple) and len(value.elts) == len(target.elts):
            return list(zip(target.elts, value.elts))
        return []
    return [(target, value)]


def join(same, found):
    """Make one group of the groups of all these things."""
    names = {same.setdefault(thing, thing) for thing in sorted(found)}
    for thing in list(same):
        if same[thing] in names:
            same[thing] = min(names)


def changes(inside):
    """The pairs of a row and a changed value in these statements or expressions."""
    for top in inside:
        for part in ast.walk(top):
            if isinstance(part, ast.Call):
                called = part.func
                if isinstance(called, ast.Attribute) and called.attr in CHANGING:
                    yield part.lineno, called.value
                if isinstance(called, ast.Name) and called.id in HEAPS:
                    yield part.lineno, part.args[0]
            if isinstance(part, ast.Subscript) and not isinstance(part.ctx, ast.Load):
                yield part.lineno, part.value
            if isinstance(part, ast.AugAssign):
                yield part.lineno, part.target
