"""The package's own files, held against those rules of its language that a walk over their parts can see."""

import ast
import builtins
import re
import unittest
from pathlib import Path

PACKAGE = Path(__file__).resolve().parent.parent / "evennotes"
FILES = sorted(PACKAGE.glob("*.py"))
OWN_NAMES = set("""len range enumerate zip min max sum abs sorted reversed int str bool list tuple dict set frozenset
isinstance ord repr any all divmod Exception ValueError TypeError KeyError IndexError LookupError ZeroDivisionError
ArithmeticError OverflowError RuntimeError NotImplementedError AttributeError StopIteration""".split())
OWN_METHODS = set("""append clear copy count endswith extend find get index insert isalnum isalpha isdigit islower
isspace isupper items join keys ljust lower lstrip partition pop remove replace reverse rfind rjust rpartition rsplit
rstrip setdefault split splitlines startswith strip update upper values zfill bit_length""".split())
NO_WORDS = set("""type typing typing_extensions enum Enum IntEnum StrEnum Flag IntFlag Generic Protocol ABC ABCMeta
namedtuple NamedTuple TypedDict TYPE_CHECKING abstractmethod""".split())
NO_PARTS = (
    ast.With, ast.Delete, ast.Global, ast.Nonlocal, ast.Assert, ast.Yield, ast.YieldFrom, ast.AsyncFunctionDef,
    ast.Await, ast.AsyncFor, ast.AsyncWith, ast.Match, ast.SetComp, ast.DictComp, ast.GeneratorExp, ast.NamedExpr,
    ast.Starred, ast.Div, ast.Import, ast.AnnAssign, ast.Set)


def own_values():
    """The names of the package's own methods, and of the values its objects have."""
    told = {"__init__"}
    for name, part in parts():
        if isinstance(part, ast.ClassDef):
            told |= {each.name for each in part.body if isinstance(each, ast.FunctionDef)}
        if isinstance(part, ast.Attribute) and isinstance(part.ctx, ast.Store):
            told.add(part.attr)
    return told


def parts():
    for path in FILES:
        for part in ast.walk(ast.parse(path.read_text())):
            yield path.name, part


def names_made(rows):
    """The names that a file makes at its top, those that it draws from others not among them."""
    return ({row.name for row in rows if isinstance(row, (ast.FunctionDef, ast.ClassDef))}
            | {row.targets[0].id for row in rows if isinstance(row, ast.Assign)})


class Form(unittest.TestCase):
    def test_only_plain_files_lie_there(self):
        self.assertGreaterEqual({path.name for path in FILES},
                                {"__init__.py", "errors.py", "echelons.py", "squares.py", "programs.py", "layouts.py",
                                 "runs.py", "notes.py", "rests.py", "joins.py", "needless.py", "texts.py", "desk.py"})
        for path in PACKAGE.iterdir():
            if path.name != "__pycache__":
                self.assertRegex(path.name, r"^[a-z0-9_]+\.py$")

    def test_signs_and_sizes(self):
        for path in FILES:
            text = path.read_bytes().decode("ascii")
            self.assertRegex(text, r"\A[ -~\n]*\Z")
            rows = text.split("\n")
            self.assertLessEqual(len(rows), 400, path)
            self.assertLessEqual(max(map(len, rows)), 120, path)

    def test_words_that_stand_nowhere(self):
        for path in FILES:
            text = path.read_text()
            self.assertEqual(NO_WORDS & set(re.findall(r"\w+", text)), set(), path)
            self.assertIsNone(re.search("dataclass|overload|contextmanager", text), path)

    def test_parts_that_are_not_used(self):
        for name, part in parts():
            self.assertNotIsInstance(part, NO_PARTS, name)
            if isinstance(part, ast.Constant):
                self.assertNotIsInstance(part.value, (float, bytes, complex), name)
                self.assertFalse(isinstance(part.value, str) and chr(37) in part.value, name)
            if isinstance(part, ast.Assign):
                self.assertEqual(len(part.targets), 1, name)
            if isinstance(part, ast.ListComp):
                self.assertEqual(len(part.generators), 1, name)
                self.assertLessEqual(len(part.generators[0].ifs), 1, name)
            if isinstance(part, (ast.For, ast.While)):
                self.assertEqual(part.orelse, [], name)
            if isinstance(part, ast.Compare) and any(isinstance(op, (ast.Is, ast.IsNot)) for op in part.ops):
                self.assertIn(part.comparators[0].value, (None, True, False), name)

    def test_functions_and_classes(self):
        for name, part in parts():
            if isinstance(part, ast.FunctionDef):
                self.assertLessEqual(part.end_lineno - part.lineno + 1, 40, (name, part.name))
                given = part.args
                others = given.vararg or given.kwarg or given.kwonlyargs or given.posonlyargs
                self.assertFalse(others, (name, part.name))
            if isinstance(part, (ast.FunctionDef, ast.ClassDef)):
                self.assertEqual(part.decorator_list, [], (name, part.name))
            if isinstance(part, ast.ClassDef):
                self.assertLessEqual(len(part.bases), 1, (name, part.name))

    def test_imports_are_the_packages_own(self):
        for name, part in parts():
            if isinstance(part, ast.ImportFrom):
                self.assertEqual(part.level, 0, name)
                self.assertRegex(part.module, r"^evennotes\.[a-z]+$", name)

    def test_imports_come_from_where_the_name_is_made(self):
        drawn_from = {}
        for path in FILES:
            drawn_from[path.stem] = [part for part in ast.parse(path.read_text()).body
                                     if isinstance(part, ast.ImportFrom)]
        for name, rows in drawn_from.items():
            for row in rows:
                made = names_made(ast.parse((PACKAGE / (row.module[10:] + ".py")).read_text()).body)
                self.assertLessEqual({each.name for each in row.names}, made, name)
                self.assertEqual([each.asname for each in row.names], [None] * len(row.names), name)
                used = {part.id for part in ast.walk(ast.parse((PACKAGE / (name + ".py")).read_text()))
                        if isinstance(part, ast.Name)}
                self.assertLessEqual({each.name for each in row.names}, used, name)
        while drawn_from:
            free = [name for name, rows in drawn_from.items()
                    if not any(row.module[10:] in drawn_from for row in rows)]
            self.assertNotEqual(free, [], "files draw from one another")
            for name in free:
                del drawn_from[name]

    def test_the_top_of_a_file(self):
        for path in FILES:
            rows = ast.parse(path.read_text()).body
            bound = []
            for row in rows:
                if isinstance(row, (ast.FunctionDef, ast.ClassDef)):
                    bound.append(row.name)
                elif isinstance(row, ast.ImportFrom):
                    bound += [each.name for each in row.names]
                elif isinstance(row, ast.Assign):
                    bound.append(row.targets[0].id)
                else:
                    self.assertTrue(row is rows[0] and isinstance(row.value.value, str), path)
            self.assertEqual(len(bound), len(set(bound)), path)

    def test_no_local_is_called_like_an_import_or_a_class(self):
        for path in FILES:
            whole = ast.parse(path.read_text())
            taken = {part.name for part in whole.body if isinstance(part, ast.ClassDef)}
            taken |= {each.name for part in whole.body if isinstance(part, ast.ImportFrom) for each in part.names}
            for part in ast.walk(whole):
                if isinstance(part, ast.arg):
                    self.assertNotIn(part.arg, taken, path)
                if isinstance(part, ast.Name) and isinstance(part.ctx, ast.Store):
                    self.assertNotIn(part.id, taken, path)

    def test_names_and_methods(self):
        own = own_values()
        for name, part in parts():
            if isinstance(part, ast.Name):
                self.assertRegex(part.id, r"^[A-Za-z]", name)
                if part.id in dir(builtins):
                    self.assertIn(part.id, OWN_NAMES, name)
                    self.assertIsInstance(part.ctx, ast.Load, (name, part.id))
            if isinstance(part, ast.arg):
                self.assertNotIn(part.arg, dir(builtins), name)
            if isinstance(part, ast.Attribute):
                self.assertIn(part.attr, OWN_METHODS | own, name)


if __name__ == "__main__":
    unittest.main()
