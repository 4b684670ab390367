"""The rules of the language that can be looked up in the code at a glance."""

import ast
import builtins
import unittest
from pathlib import Path

PACKAGE = Path(__file__).resolve().parent.parent / "foreworth"
LIBRARY = {
    "heapq": {"heappush", "heappop", "heapify", "heapreplace", "heappushpop"},
    "math": {"gcd", "lcm", "isqrt", "comb", "perm", "factorial"},
}
# L8: builtins that may be read.
KNOWN = set(
    "len range enumerate zip min max sum abs sorted reversed int str bool bytes list tuple dict set "
    "isinstance ord repr any all divmod map Exception ValueError TypeError KeyError IndexError "
    "LookupError ZeroDivisionError ArithmeticError OverflowError RuntimeError NotImplemented "
    "NotImplementedError AttributeError StopIteration iter next property".split())
# L17: names that are used nowhere.
BARRED = set("register mro elements open input law version_info with_traceback add_note".split())
STATEMENTS = (
    ast.Assign, ast.AugAssign, ast.If, ast.While, ast.For, ast.Return, ast.Break, ast.Continue,
    ast.Pass, ast.Raise, ast.Expr, ast.FunctionDef, ast.ClassDef, ast.ImportFrom, ast.Try,
    ast.Assert, ast.Delete,
)


def sources():
    """The path, the text and the tree of each file of the package."""
    for path in sorted(PACKAGE.glob("*.py")):
        text = path.read_text(encoding="utf-8")
        yield path, text, ast.parse(text)


def names_of(tree):
    """All names that are bound or read in a file, with attributes."""
    for part in ast.walk(tree):
        if isinstance(part, ast.Name):
            yield part.id
        elif isinstance(part, ast.Attribute):
            yield part.attr
        elif isinstance(part, (ast.FunctionDef, ast.ClassDef)):
            yield part.name
        elif isinstance(part, (ast.arg, ast.keyword)):
            yield part.arg


class LanguageTest(unittest.TestCase):
    def test_files(self):
        for path in PACKAGE.iterdir():
            self.assertTrue(path.suffix == ".py" or path.name == "__pycache__", path)

    def test_sizes_and_characters(self):
        for path, text, tree in sources():
            lines = text.split("\n")
            self.assertLessEqual(len(lines), 399, path)
            self.assertTrue(all(" " <= sign <= "~" or sign == "\n" for sign in text), path)
            self.assertLessEqual(max(len(line) for line in lines), 120, path)
            for part in ast.walk(tree):
                if isinstance(part, ast.FunctionDef):
                    self.assertLessEqual(part.end_lineno - part.lineno + 1, 40, part.name)

    def test_imports(self):
        modules = {path.stem for path, _, _ in sources()}
        for path, _, tree in sources():
            for part in ast.walk(tree):
                self.assertNotIsInstance(part, ast.Import)
                if isinstance(part, ast.ImportFrom):
                    self.assertIn(part, tree.body)
                    names = {alias.name for alias in part.names}
                    self.assertTrue(all(alias.asname is None for alias in part.names))
                    top, _, name = part.module.partition(".")
                    if top == "foreworth":
                        self.assertIn(name, modules)
                        # The very file that defines the name.
                        other = (PACKAGE / f"{name}.py").read_text(encoding="utf-8")
                        self.assertLessEqual(names, defined(ast.parse(other)), path)
                    else:
                        self.assertLessEqual(names, LIBRARY[part.module], path)

    def test_no_file_imports_itself_through_others(self):
        needed = {}
        for path, _, tree in sources():
            needed[path.stem] = [part.module.split(".")[1] for part in tree.body
                                 if isinstance(part, ast.ImportFrom)
                                 and part.module.startswith("foreworth.")]
        while needed:
            free = [name for name in needed if not any(other in needed for other in needed[name])]
            self.assertTrue(free, needed)
            for name in free:
                del needed[name]

    def test_statements(self):
        for path, _, tree in sources():
            for part in ast.walk(tree):
                if isinstance(part, ast.stmt):
                    self.assertIsInstance(part, STATEMENTS, path)
                if isinstance(part, ast.BinOp):
                    self.assertNotIsInstance(part.op, ast.Div, path)
                if isinstance(part, ast.Constant):
                    self.assertNotIsInstance(part.value, (float, complex), path)
                    if isinstance(part.value, str):
                        self.assertNotIn(chr(37), part.value, path)

    def test_names(self):
        known = set(dir(builtins))
        for path, _, tree in sources():
            for name in names_of(tree):
                self.assertNotIn(name, BARRED, path)
            for part in ast.walk(tree):
                if isinstance(part, ast.Name):
                    reading = isinstance(part.ctx, ast.Load) and part.id in KNOWN
                    self.assertTrue(reading or part.id not in known, (path, part.id))
                if isinstance(part, (ast.FunctionDef, ast.ClassDef)):
                    self.assertNotIn(part.name, KNOWN, path)
                if isinstance(part, ast.arg):
                    self.assertNotIn(part.arg, known, path)

    def test_no_local_name_is_that_of_an_import_or_a_class(self):
        for path, _, tree in sources():
            taken = {alias.name for part in tree.body if isinstance(part, ast.ImportFrom)
                     for alias in part.names}
            taken |= {part.name for part in tree.body if isinstance(part, ast.ClassDef)}
            for part in ast.walk(tree):
                if isinstance(part, ast.arg):
                    self.assertNotIn(part.arg, taken, path)
                if isinstance(part, ast.Name) and isinstance(part.ctx, ast.Store):
                    self.assertNotIn(part.id, taken, path)


def defined(tree):
    """The names that a file defines itself."""
    names = {part.name for part in tree.body if isinstance(part, (ast.FunctionDef, ast.ClassDef))}
    return names | {part.targets[0].id for part in tree.body if isinstance(part, ast.Assign)}


if __name__ == "__main__":
    unittest.main()
