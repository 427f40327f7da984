"""What can be seen from outside of the language rules: files, imports, sizes, characters, words, names."""

import ast
import builtins
import pathlib
import unittest

PACKAGE = pathlib.Path(__file__).resolve().parent.parent / "bandsplits"
FILES = sorted(path for path in PACKAGE.rglob("*") if "__pycache__" not in path.parts)
# The doctest module gives `_` a meaning of its own; L12 lets it stand.
TAKEN = set(dir(builtins)) - {"_"}
TREES = [(path, ast.parse(path.read_text(encoding="ascii"))) for path in FILES]

# L2, L8 and L17.
LIBRARY = {"math": {"gcd", "lcm", "isqrt", "comb", "perm", "factorial"}}
BUILTINS = set(
    "len range enumerate zip min max sum abs sorted reversed int str bool bytes list tuple dict set frozenset "
    "isinstance ord repr any all divmod pow map iter next getattr hasattr setattr property Exception ValueError TypeError "
    "KeyError IndexError LookupError ZeroDivisionError ArithmeticError OverflowError RuntimeError "
    "NotImplementedError AttributeError StopIteration NotImplemented".split()
)
BARRED_NAMES = set(
    "register mro elements open input law version_info with_traceback add_note typing typing_extensions enum Enum "
    "IntEnum StrEnum Flag IntFlag Generic Protocol ABC ABCMeta namedtuple NamedTuple TypedDict TYPE_CHECKING "
    "abstractmethod dataclass overload contextmanager type eval exec chr format".split()
)


def names_in(tree):
    """All names that stand in a file, with their lines."""
    for node in ast.walk(tree):
        if isinstance(node, ast.Name):
            yield node.id, node.lineno
        elif isinstance(node, ast.Attribute):
            yield node.attr, node.lineno
        elif isinstance(node, (ast.FunctionDef, ast.ClassDef)):
            yield node.name, node.lineno
        elif isinstance(node, (ast.arg, ast.keyword)):
            yield node.arg, node.lineno


def bound_in(tree):
    """The names that a file itself binds."""
    out = []
    for node in tree.body:
        if isinstance(node, (ast.FunctionDef, ast.ClassDef)):
            out.append(node.name)
        elif isinstance(node, ast.Assign):
            out += [target.id for target in node.targets]
    return out


def imported_in(tree):
    return [name.name for node in tree.body if isinstance(node, ast.ImportFrom) for name in node.names]


class Language(unittest.TestCase):
    def test_the_folder_contains_python_files_alone(self):
        self.assertIn(PACKAGE / "__init__.py", FILES)
        for path in FILES:
            self.assertRegex(path.name, r"\A([a-z][a-z0-9_]*|__init__|__main__)\.py\Z")

    def test_sizes_and_characters(self):
        for path, tree in TREES:
            lines = path.read_text(encoding="ascii").split("\n")
            self.assertLessEqual(len(lines), 399, path)
            for number, line in enumerate(lines, start=1):
                self.assertRegex(line, r"\A[ -~]{0,120}\Z", f"{path}:{number}")
            for node in ast.walk(tree):
                if isinstance(node, ast.FunctionDef):
                    self.assertLessEqual(node.end_lineno - node.lineno + 1, 40, f"{path}:{node.name}")

    def test_imports(self):
        bound = {f"bandsplits.{path.stem}": set(bound_in(tree)) for path, tree in TREES}
        for path, tree in TREES:
            for node in ast.walk(tree):
                self.assertNotIsInstance(node, ast.Import, path)
                if isinstance(node, ast.ImportFrom):
                    where = f"{path}:{node.lineno}"
                    self.assertEqual(node.level, 0, where)
                    self.assertEqual([name.asname for name in node.names], [None] * len(node.names), where)
                    names = {name.name for name in node.names}
                    self.assertLessEqual(names, {**bound, **LIBRARY}[node.module], where)

    def test_each_name_is_bound_once(self):
        for path, tree in TREES:
            names = bound_in(tree) + imported_in(tree)
            self.assertEqual(sorted(names), sorted(set(names)), path)

    def test_names(self):
        for path, tree in TREES:
            for name, line in names_in(tree):
                self.assertNotIn(name, BARRED_NAMES, f"{path}:{line}")
                if name in TAKEN:
                    self.assertIn(name, BUILTINS, f"{path}:{line}")

    def test_local_names_are_no_builtins_and_no_imports(self):
        for path, tree in TREES:
            taken = TAKEN | set(imported_in(tree))
            for node in ast.walk(tree):
                if isinstance(node, ast.arg):
                    self.assertNotIn(node.arg, taken, f"{path}:{node.lineno}")
                if isinstance(node, ast.Name) and isinstance(node.ctx, ast.Store):
                    self.assertNotIn(node.id, taken, f"{path}:{node.lineno}")

    def test_no_floats_and_no_division_by_a_stroke(self):
        for path, tree in TREES:
            for node in ast.walk(tree):
                self.assertNotIsInstance(node, (ast.Div, ast.Global, ast.AsyncFunctionDef), path)
                if isinstance(node, ast.Constant):
                    self.assertNotIsInstance(node.value, (float, complex), f"{path}:{node.lineno}")
                    self.assertNotIn("%", str(node.value), f"{path}:{node.lineno}")


if __name__ == "__main__":
    unittest.main()
