"""Holds the package's files to those rules of the language document that can be seen in a file by itself."""

import ast
import builtins
import re
import unittest
from pathlib import Path

PACKAGE = Path(__file__).resolve().parent.parent / "patchsquare"

ERRORS = """Exception ValueError TypeError KeyError IndexError LookupError ZeroDivisionError ArithmeticError
    OverflowError RuntimeError NotImplementedError AttributeError StopIteration""".split()
OWN_NAMES = """len range enumerate zip min max sum abs sorted reversed int str bool list tuple dict set frozenset
    isinstance ord repr any all divmod""".split() + ERRORS
METHODS = """append clear copy count endswith extend find get index insert isalnum isalpha isdigit islower isspace
    isupper items join keys ljust lower lstrip partition pop remove replace reverse rfind rjust rpartition rsplit
    rstrip setdefault split splitlines startswith strip update upper values zfill bit_length""".split()
PYTHON_NAMES = [name for name in dir(builtins) if not name.startswith("_")]
UNDERSCORED = ["__init__", "__eq__", "__repr__", "__str__", "__len__"]
WORDS = """type typing typing_extensions enum Enum IntEnum StrEnum Flag IntFlag Generic Protocol ABC ABCMeta namedtuple
    NamedTuple TypedDict TYPE_CHECKING abstractmethod register mro elements open input version_info with_traceback
    add_note""".split()
NODES = """Module FunctionDef ClassDef arguments arg Assign AugAssign If While For Return Break Continue Pass Raise Try
    ExceptHandler Expr Call Constant Name Load Store Attribute Subscript Slice List Tuple Dict Set ListComp
    comprehension IfExp BoolOp And Or UnaryOp Not USub Invert BinOp Add Sub Mult FloorDiv Mod Pow BitAnd BitOr BitXor
    LShift RShift Compare Eq NotEq Lt LtE Gt GtE Is IsNot In NotIn Lambda JoinedStr FormattedValue ImportFrom alias
    keyword""".split()


def files():
    return sorted(PACKAGE.glob("*.py"))


def tree_of(path):
    return ast.parse(path.read_text(encoding="ascii"))


def nodes_of(kind):
    return [(path, node) for path in files() for node in ast.walk(tree_of(path)) if isinstance(node, kind)]


def drawn_from(path):
    return [node.module.split(".")[1] for node in tree_of(path).body if isinstance(node, ast.ImportFrom)]


def top_names(path):
    names = []
    for node in tree_of(path).body:
        if isinstance(node, (ast.FunctionDef, ast.ClassDef)):
            names.append(node.name)
        elif isinstance(node, ast.Assign):
            names.append(node.targets[0].id)
    return names


def imported_names(path):
    return [name.name for node in tree_of(path).body if isinstance(node, ast.ImportFrom) for name in node.names]


class TestLanguage(unittest.TestCase):
    def test_files(self):
        for path in PACKAGE.iterdir():
            if path.name != "__pycache__":
                self.assertRegex(path.name, r"^([a-z][a-z0-9_]*|__init__|__main__)\.py$")
        self.assertIn("__init__.py", [path.name for path in files()])

    def test_signs_and_sizes(self):
        for path in files():
            text = path.read_bytes().decode("ascii")
            self.assertEqual([sign for sign in text if not (" " <= sign <= "~" or sign == "\n")], [], path)
            self.assertLessEqual(len(text.splitlines()), 400, path)
            self.assertLessEqual(max([len(row) for row in text.splitlines()]), 120, path)
        for path, node in nodes_of(ast.FunctionDef):
            self.assertLessEqual(node.end_lineno - node.lineno + 1, 40, (path, node.name))

    def test_words(self):
        for path in files():
            text = path.read_text()
            self.assertEqual([word for word in WORDS if re.search(rf"\b{word}\b", text)], [], path)
            self.assertIsNone(re.search("dataclass|overload|contextmanager", text), path)

    def test_only_the_nodes_that_are_allowed(self):
        for path, node in nodes_of(ast.AST):
            self.assertIn(type(node).__name__, NODES, (path, getattr(node, "lineno", None)))

    def test_the_top_of_each_file(self):
        for path in files():
            body = tree_of(path).body
            self.assertIsInstance(body[0], ast.Expr, path)
            for node in body[1:]:
                self.assertIsInstance(node, (ast.ImportFrom, ast.FunctionDef, ast.ClassDef, ast.Assign), path)
            names = top_names(path) + imported_names(path)
            self.assertEqual(len(names), len(set(names)), path)

    def test_imports(self):
        for path, node in nodes_of(ast.ImportFrom):
            self.assertEqual(node.level, 0, path)
            self.assertTrue(node.module.startswith("patchsquare."), path)
            source = PACKAGE / (node.module.split(".")[1] + ".py")
            for name in node.names:
                self.assertIn(name.name, top_names(source), path)
                self.assertIsNone(name.asname, path)

    def test_no_two_files_draw_from_one_another(self):
        draws = {path.stem: drawn_from(path) for path in files()}
        while draws:
            free = [name for name in draws if not [other for other in draws[name] if other in draws]]
            self.assertNotEqual(free, [], draws)
            draws = {name: draws[name] for name in draws if name not in free}

    def test_functions(self):
        for path, node in nodes_of(ast.FunctionDef):
            given = node.args
            self.assertEqual((given.vararg, given.kwarg, given.kwonlyargs, given.posonlyargs), (None, None, [], []), path)
            self.assertEqual(node.decorator_list, [], path)
            self.assertIsNone(ast.get_docstring(node), (path, node.name))

    def test_classes(self):
        for path, node in nodes_of(ast.ClassDef):
            self.assertLessEqual(len(node.bases), 1, path)
            self.assertEqual((node.keywords, node.decorator_list), ([], []), path)
            for part in node.body:
                self.assertIsInstance(part, (ast.FunctionDef, ast.Pass), (path, node.name))
            methods = [part.name for part in node.body if isinstance(part, ast.FunctionDef)]
            self.assertEqual(len(methods), len(set(methods)), (path, node.name))

    def test_names(self):
        for path, node in nodes_of((ast.Name, ast.arg)):
            name = node.id if isinstance(node, ast.Name) else node.arg
            self.assertRegex(name, "^[A-Za-z]", path)
            if name in PYTHON_NAMES:
                self.assertIn(name, OWN_NAMES, path)
                self.assertFalse(isinstance(node, ast.arg) or isinstance(node.ctx, ast.Store), (path, name))
        for path, node in nodes_of((ast.FunctionDef, ast.ClassDef)):
            self.assertTrue(node.name in UNDERSCORED or re.match("[A-Za-z]", node.name), (path, node.name))
            self.assertNotIn(node.name, PYTHON_NAMES, path)

    def test_no_local_is_called_like_an_import_or_class(self):
        for path in files():
            taken = imported_names(path) + [n.name for n in tree_of(path).body if isinstance(n, ast.ClassDef)]
            for node in ast.walk(tree_of(path)):
                if isinstance(node, ast.arg) or isinstance(node, ast.Name) and isinstance(node.ctx, ast.Store):
                    name = node.arg if isinstance(node, ast.arg) else node.id
                    self.assertNotIn(name, taken, path)

    def test_methods(self):
        own = [node.name for path, node in nodes_of(ast.FunctionDef)]
        for path, node in nodes_of(ast.Call):
            if isinstance(node.func, ast.Attribute):
                self.assertIn(node.func.attr, METHODS + own, (path, node.lineno))

    def test_values(self):
        for path, node in nodes_of(ast.Constant):
            self.assertIn(type(node.value), (int, str, bool, type(None)), path)
            if isinstance(node.value, str):
                self.assertNotIn("%", node.value, path)

    def test_statements(self):
        for path, node in nodes_of((ast.For, ast.While)):
            self.assertEqual(node.orelse, [], path)
        for path, node in nodes_of(ast.Assign):
            self.assertEqual(len(node.targets), 1, path)
        for path, node in nodes_of(ast.ListComp):
            self.assertEqual(len(node.generators), 1, path)
            self.assertLessEqual(len(node.generators[0].ifs), 1, path)
        for path, node in nodes_of(ast.BinOp):
            if isinstance(node.op, ast.Pow):
                self.assertIsInstance(node.right, ast.Constant, (path, node.lineno))


if __name__ == "__main__":
    unittest.main()
