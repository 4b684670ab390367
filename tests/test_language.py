"""The rules of the language that can be looked up in the code at a glance."""

import ast
import builtins
import unittest
from pathlib import Path

from tests.loops import changed_loops

PACKAGE = Path(__file__).resolve().parent.parent / "foreworth"
LIBRARY = {
    "heapq": {"heappush", "heappop", "heapify", "heapreplace", "heappushpop"},
    "math": {"gcd", "lcm", "isqrt", "comb", "perm", "factorial"},
}
# L8: builtins that may be read.
KNOWN = set(
    "len range enumerate zip min max sum abs sorted reversed int str bool bytes list tuple dict set "
    "isinstance ord repr any all divmod map Exception ValueError TypeError KeyError IndexError "
    "LookupError ZeroDivisionError ArithmeticError OverflowError RuntimeError NotImplemented "
    "NotImplementedError AttributeError StopIteration iter next property".split())
# L17: names that are used nowhere.
BARRED = set("register mro elements open input law version_info with_traceback add_note".split())
# L26: what values of builtin kinds have.
BUILTIN_MEMBERS = {name for kind in (str, int, list, dict, set, bytes) for name in dir(kind)}
# L23: calls that walk a zip, a range and the like at once.
WALKERS = set("list tuple dict sorted sum any all min max enumerate zip reversed".split())
STATEMENTS = (
    ast.Assign, ast.AugAssign, ast.If, ast.While, ast.For, ast.Return, ast.Break, ast.Continue,
    ast.Pass, ast.Raise, ast.Expr, ast.FunctionDef, ast.ClassDef, ast.ImportFrom, ast.Try,
    ast.Assert, ast.Delete,
)
# L23: loops that change what they go over, each with the row of the change.
CHANGED_LOOPS = [
    # The three places that were in graph, paths and components: the list that is
    # appended to gets the name of the list that the loop goes over.
    (9, """
def led_to(starts, edges):
    layer = starts
    while layer:
        following = []
        for node in layer:
            for target in edges[node]:
                if not met[target]:
                    following.append(target)
        layer = following
"""),
    (8, """
def steps_to(steps, before, layer):
    while layer:
        following = []
        for node in layer:
            for earlier in before[node]:
                steps[earlier] = steps[node] + 1
                following.append(earlier)
        layer = following
"""),
    (7, """
def unowned_before(layer, before):
    while layer:
        following = []
        for node in layer:
            for earlier in before[node]:
                following.append(earlier)
        layer = following
"""),
    (4, "\ndef one(rows):\n    for row in rows:\n        rows.append(row)\n"),
    (4, "\ndef one(rows):\n    for at, row in enumerate(rows):\n        rows[at] = row\n"),
    (4, "\ndef one(rows):\n    for key, row in rows.items():\n        del rows[key]\n"),
    (4, "\ndef one(self, box):\n    for row in self.rows:\n        box.rows.pop()\n"),
    (4, "\ndef one(heap):\n    for row in heap:\n        heappush(heap, row)\n"),
    (4, "\ndef one(a, b):\n    for row in a or b:\n        b.append(row)\n"),
    (3, "\ndef one(rows):\n    return [rows.pop() for row in rows]\n"),
]
UNCHANGED_LOOPS = [
    "\ndef one(rows):\n    for row in list(rows):\n        rows.append(row)\n",
    "\ndef one(rows, out):\n    for row in rows:\n        out.append(row)\n",
    "\ndef one(rows):\n    for row in rows:\n        row.append(1)\n",
]


def sources():
    """The path, the text and the tree of each file of the package."""
    for path in sorted(PACKAGE.glob("*.py")):
        text = path.read_text(encoding="utf-8")
        yield path, text, ast.parse(text)


def names_of(tree):
    """All names that are bound or read in a file, with attributes."""
    for part in ast.walk(tree):
        if isinstance(part, ast.Name):
            yield part.id
        elif isinstance(part, ast.Attribute):
            yield part.attr
        elif isinstance(part, (ast.FunctionDef, ast.ClassDef)):
            yield part.name
        elif isinstance(part, (ast.arg, ast.keyword)):
            yield part.arg


class LanguageTest(unittest.TestCase):
    def test_files(self):
        for path in PACKAGE.iterdir():
            self.assertTrue(path.suffix == ".py" or path.name == "__pycache__", path)

    def test_sizes_and_characters(self):
        for path, text, tree in sources():
            lines = text.split("\n")
            self.assertLessEqual(len(lines), 399, path)
            self.assertTrue(all(" " <= sign <= "~" or sign == "\n" for sign in text), path)
            self.assertLessEqual(max(len(line) for line in lines), 120, path)
            for part in ast.walk(tree):
                if isinstance(part, ast.FunctionDef):
                    self.assertLessEqual(part.end_lineno - part.lineno + 1, 40, part.name)

    def test_imports(self):
        modules = {path.stem for path, _, _ in sources()}
        for path, _, tree in sources():
            for part in ast.walk(tree):
                self.assertNotIsInstance(part, ast.Import)
                if isinstance(part, ast.ImportFrom):
                    self.assertIn(part, tree.body)
                    names = {alias.name for alias in part.names}
                    self.assertTrue(all(alias.asname is None for alias in part.names))
                    top, _, name = part.module.partition(".")
                    if top == "foreworth":
                        self.assertIn(name, modules)
                        # The very file that defines the name.
                        other = (PACKAGE / f"{name}.py").read_text(encoding="utf-8")
                        self.assertLessEqual(names, defined(ast.parse(other)), path)
                    else:
                        self.assertLessEqual(names, LIBRARY[part.module], path)

    def test_no_file_imports_itself_through_others(self):
        needed = {}
        for path, _, tree in sources():
            needed[path.stem] = [part.module.split(".")[1] for part in tree.body
                                 if isinstance(part, ast.ImportFrom)
                                 and part.module.startswith("foreworth.")]
        while needed:
            free = [name for name in needed if not any(other in needed for other in needed[name])]
            self.assertTrue(free, needed)
            for name in free:
                del needed[name]

    def test_statements(self):
        for path, _, tree in sources():
            for part in ast.walk(tree):
                if isinstance(part, ast.stmt):
                    self.assertIsInstance(part, STATEMENTS, path)
                if isinstance(part, ast.BinOp):
                    self.assertNotIsInstance(part.op, ast.Div, path)
                if isinstance(part, ast.Constant):
                    self.assertNotIsInstance(part.value, (float, complex), path)
                    if isinstance(part.value, str):
                        self.assertNotIn(chr(37), part.value, path)

    def test_loops_do_not_change_what_they_go_over(self):
        for path, _, tree in sources():
            self.assertEqual(changed_loops(tree), [], path)

    def test_changed_loops_are_found(self):
        for row, text in CHANGED_LOOPS:
            self.assertEqual(changed_loops(ast.parse(text)), [row], text)
        for text in UNCHANGED_LOOPS:
            self.assertEqual(changed_loops(ast.parse(text)), [], text)

    def test_names(self):
        known = set(dir(builtins))
        for path, _, tree in sources():
            for name in names_of(tree):
                self.assertNotIn(name, BARRED, path)
            for part in ast.walk(tree):
                if isinstance(part, ast.Name):
                    reading = isinstance(part.ctx, ast.Load) and part.id in KNOWN
                    self.assertTrue(reading or part.id not in known, (path, part.id))
                if isinstance(part, (ast.FunctionDef, ast.ClassDef)):
                    self.assertNotIn(part.name, KNOWN, path)
                if isinstance(part, ast.arg):
                    self.assertNotIn(part.arg, known, path)

    def test_no_local_name_is_that_of_an_import_or_a_class(self):
        for path, _, tree in sources():
            taken = {alias.name for part in tree.body if isinstance(part, ast.ImportFrom)
                     for alias in part.names}
            taken |= {part.name for part in tree.body if isinstance(part, ast.ClassDef)}
            for part in ast.walk(tree):
                if isinstance(part, ast.arg):
                    self.assertNotIn(part.arg, taken, path)
                if isinstance(part, ast.Name) and isinstance(part.ctx, ast.Store):
                    self.assertNotIn(part.id, taken, path)

    def test_no_name_is_both_a_method_and_an_attribute(self):
        methods, properties, attributes = set(), set(), set()
        for _, _, tree in sources():
            for part in ast.walk(tree):
                if isinstance(part, ast.ClassDef):
                    for member in part.body:
                        if isinstance(member, ast.FunctionDef):
                            (properties if member.decorator_list else methods).add(member.name)
                if isinstance(part, ast.Attribute) and isinstance(part.ctx, ast.Store):
                    attributes.add(part.attr)
        self.assertEqual(methods & attributes, set())
        self.assertEqual(properties & (methods | attributes), set())
        self.assertEqual(attributes & BUILTIN_MEMBERS, set())
        # Ledgers have an add of their own, so no set is stored anywhere.
        self.assertEqual(methods & BUILTIN_MEMBERS - {"__init__", "__iter__", "__add__"}, {"add"})

    def test_sets_and_views_are_used_at_once(self):
        for path, _, tree in sources():
            for part in ast.walk(tree):
                for child in ast.iter_child_nodes(part):
                    where = (path, getattr(child, "lineno", 0))
                    if isinstance(child, (ast.Set, ast.SetComp)) or called(child) == "set":
                        ok = isinstance(part, ast.Compare) or called(part) in ("sorted", "len")
                        self.assertTrue(ok, where)
                    if called(child) in ("zip", "enumerate", "range", "reversed", "items", "values"):
                        ok = isinstance(part, (ast.For, ast.comprehension))
                        self.assertTrue(ok or called(part) in WALKERS, where)


def called(part):
    """The name of what is called, or None."""
    if not isinstance(part, ast.Call):
        return None
    return part.func.id if isinstance(part.func, ast.Name) else part.func.attr


def defined(tree):
    """The names that a file defines itself."""
    names = {part.name for part in tree.body if isinstance(part, (ast.FunctionDef, ast.ClassDef))}
    return names | {part.targets[0].id for part in tree.body if isinstance(part, ast.Assign)}


if __name__ == "__main__":
    unittest.main()
