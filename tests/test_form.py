"""The package keeps to the small part of Python it is to be written in (L1 to L28, as far as a short look can see)."""

import ast
import builtins
import pathlib
import re
import unittest

PACKAGE = pathlib.Path(__file__).resolve().parent.parent / "likefill"

OWN_NAMES = set("""len range enumerate zip min max sum abs sorted reversed int str bool bytes list tuple dict set frozenset
isinstance ord repr any all divmod Exception ValueError TypeError KeyError IndexError LookupError ZeroDivisionError
ArithmeticError OverflowError RuntimeError NotImplementedError AttributeError StopIteration""".split())

OWN_METHODS = set("""append clear copy count endswith extend find get index insert isalnum isalpha isdigit islower isspace
isupper items join keys ljust lower lstrip partition pop remove replace reverse rfind rjust rpartition rsplit rstrip
setdefault split splitlines startswith strip update upper values zfill bit_length sort add discard""".split())

NODES_LEFT_OUT = (
    ast.With, ast.Match, ast.Global, ast.Nonlocal, ast.Yield, ast.YieldFrom, ast.Await, ast.AsyncFor, ast.AsyncFunctionDef,
    ast.AsyncWith, ast.GeneratorExp, ast.NamedExpr, ast.Div, ast.Import, ast.MatMult, ast.TryStar,
)

WORDS_LEFT_OUT = """type typing typing_extensions enum Enum IntEnum StrEnum Flag IntFlag Generic Protocol ABC ABCMeta
namedtuple NamedTuple TypedDict TYPE_CHECKING abstractmethod""".split()

NAMES_LEFT_OUT = set("""register mro elements open input version_info with_traceback add_note attrgetter breakpoint builtins
compile copyright credits delattr dir eval exec exit gc getattr globals hasattr help id importlib license locals methodcaller
os quit setattr super type vars sys format format_map chr""".split())

DUNDERS = {"__init__", "__eq__", "__repr__", "__str__", "__len__"}


def files():
    return sorted(PACKAGE.glob("*.py"))


def trees():
    return {path.stem: ast.parse(path.read_text()) for path in files()}


def all_nodes():
    return [(name, node) for name, tree in trees().items() for node in ast.walk(tree)]


def defs():
    return [(name, node) for name, node in all_nodes() if isinstance(node, ast.FunctionDef)]


def top_names(tree):
    """The names that a file defines itself."""
    found = [node.name for node in tree.body if isinstance(node, (ast.FunctionDef, ast.ClassDef))]
    return found + [node.targets[0].id for node in tree.body if isinstance(node, ast.Assign)]


def is_plain(node, names):
    """Whether a value at a file's top is plain, or made of plain ones and of the names."""
    if isinstance(node, ast.Name):
        return node.id in names
    if isinstance(node, ast.Dict):
        return all(is_plain(each, names) for each in node.keys + node.values)
    if isinstance(node, (ast.List, ast.Tuple)):
        return all(is_plain(each, names) for each in node.elts)
    return isinstance(node, ast.Constant)


def is_docstring(node):
    return isinstance(node, ast.Expr) and isinstance(node.value, ast.Constant) and isinstance(node.value.value, str)


class Files(unittest.TestCase):
    def test_nothing_else_lies_in_the_package(self):
        for path in PACKAGE.iterdir():
            if path.name != "__pycache__":
                self.assertRegex(path.name, r"\A(__init__|[a-z][a-z0-9_]*)\.py\Z")
        self.assertTrue((PACKAGE / "__init__.py").is_file())

    def test_signs_and_sizes(self):
        for path in files():
            text = path.read_text()
            self.assertRegex(text, r"\A[ -~\n]*\Z", path.name)
            rows = text.splitlines()
            self.assertLessEqual(len(rows), 400, path.name)
            self.assertLessEqual(max(map(len, rows)), 120, path.name)
        for name, node in defs():
            self.assertLessEqual(node.end_lineno - node.lineno + 1, 40, (name, node.name))

    def test_words_left_out(self):
        for path in files():
            for word in WORDS_LEFT_OUT:
                self.assertIsNone(re.search(rf"\b{word}\b", path.read_text()), (path.name, word))
            self.assertNotRegex(path.read_text(), "dataclass|overload|contextmanager")


class Tops(unittest.TestCase):
    def test_rows_of_a_file_s_top(self):
        for name, tree in trees().items():
            self.assertTrue(is_docstring(tree.body[0]), name)
            for node in tree.body[1:]:
                self.assertIsInstance(node, (ast.ImportFrom, ast.FunctionDef, ast.ClassDef, ast.Assign), (name, node.lineno))
                if isinstance(node, ast.Assign):
                    above = [each.name for each in tree.body if isinstance(each, ast.FunctionDef) and each.lineno < node.lineno]
                    self.assertTrue(is_plain(node.value, above), (name, node.lineno))
            bound = top_names(tree) + [each.name for node in tree.body if isinstance(node, ast.ImportFrom) for each in node.names]
            self.assertEqual(len(bound), len(set(bound)), name)

    def test_imports_are_the_package_s_own(self):
        drawn = {}
        for name, node in all_nodes():
            if isinstance(node, ast.ImportFrom):
                self.assertEqual((node.level, node.module.split(".")[0], node.col_offset), (0, "likefill", 0))
                source = node.module.split(".")[1]
                drawn.setdefault(name, []).append(source)
                for each in node.names:
                    self.assertIn(each.name, top_names(trees()[source]), (name, each.name))
        self.assert_no_circle(drawn)

    def assert_no_circle(self, drawn):
        while drawn:
            free = [name for name in drawn if not any(source in drawn for source in drawn[name])]
            self.assertTrue(free, drawn)
            for name in free:
                del drawn[name]

    def test_classes(self):
        for name, node in all_nodes():
            if isinstance(node, ast.ClassDef):
                self.assertEqual(node.col_offset, 0, (name, node.name))
                self.assertLessEqual(len(node.bases), 1)
                self.assertEqual((node.decorator_list, node.keywords), ([], []))
                for row in node.body:
                    self.assertTrue(is_docstring(row) or isinstance(row, ast.FunctionDef), (name, row.lineno))


class Rows(unittest.TestCase):
    def test_forms_left_out(self):
        for name, node in all_nodes():
            where = (name, getattr(node, "lineno", 0))
            self.assertNotIsInstance(node, NODES_LEFT_OUT, where)
            if isinstance(node, (ast.For, ast.While)):
                self.assertEqual(node.orelse, [], where)
            if isinstance(node, ast.Constant):
                self.assertNotIsInstance(node.value, (float, complex), where)
                self.assertFalse(isinstance(node.value, str) and "%" in node.value, where)
            if isinstance(node, ast.FormattedValue):
                self.assertIsNone(node.format_spec, where)
            if isinstance(node, ast.Compare) and any(isinstance(each, (ast.Is, ast.IsNot)) for each in node.ops):
                self.assertIsInstance(node.comparators[0], ast.Constant, where)

    def test_parameters(self):
        for name, node in defs():
            where = (name, node.name)
            self.assertEqual((node.args.vararg, node.args.kwarg, node.args.posonlyargs, node.decorator_list),
                             (None, None, [], []), where)
            for each in node.args.args + node.args.kwonlyargs:
                self.assertFalse(hasattr(builtins, each.arg), (where, each.arg))

    def test_locals_are_not_called_like_what_a_file_draws_in(self):
        for path, tree in trees().items():
            drawn = [each.name for node in tree.body if isinstance(node, ast.ImportFrom) for each in node.names]
            drawn.extend(node.name for node in tree.body if isinstance(node, ast.ClassDef))
            for node in ast.walk(tree):
                if isinstance(node, ast.arg):
                    self.assertNotIn(node.arg, drawn, (path, node.lineno))
                if isinstance(node, ast.Name) and isinstance(node.ctx, ast.Store):
                    self.assertNotIn(node.id, drawn, (path, node.lineno))

    def test_names(self):
        for name, node in all_nodes():
            if isinstance(node, (ast.Name, ast.FunctionDef, ast.ClassDef, ast.arg)):
                word = getattr(node, "id", None) or getattr(node, "name", None) or getattr(node, "arg", None)
                self.assertRegex(word, r"\A([a-zA-Z][a-zA-Z0-9_]*|__[a-z]+__)\Z", name)
                self.assertNotIn(word, NAMES_LEFT_OUT, name)
                if word.startswith("__"):
                    self.assertIn(word, DUNDERS, name)
            if isinstance(node, ast.Name) and hasattr(builtins, node.id):
                self.assertIn(node.id, OWN_NAMES, (name, node.lineno))
                self.assertIsInstance(node.ctx, ast.Load, (name, node.lineno))

    def test_methods_and_values(self):
        methods = {row.name for name, node in all_nodes() if isinstance(node, ast.ClassDef)
                   for row in node.body if isinstance(row, ast.FunctionDef)}
        values = {node.attr for name, node in all_nodes() if isinstance(node, ast.Attribute) and isinstance(node.ctx, ast.Store)}
        self.assertEqual(methods & values, set())
        for sort in (str, int, list, dict, set, bytes):
            self.assertEqual(values & set(dir(sort)), set())
        for name, node in all_nodes():
            if isinstance(node, ast.Attribute) and isinstance(node.ctx, ast.Load):
                self.assertIn(node.attr, methods | OWN_METHODS | values, (name, node.lineno))


if __name__ == "__main__":
    unittest.main()
