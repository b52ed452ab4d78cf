"""Holds the package's files to those rules of the language document that can be seen in a file by itself."""

import ast
import builtins
import re
import unittest
from pathlib import Path

PACKAGE = Path(__file__).resolve().parent.parent / "patchsquare"

ERRORS = """Exception ValueError TypeError KeyError IndexError LookupError ZeroDivisionError ArithmeticError
    OverflowError RuntimeError NotImplementedError AttributeError StopIteration""".split()
OWN_NAMES = """len range enumerate zip min max sum abs sorted reversed int str bool list tuple dict set frozenset
    isinstance ord repr any all divmod""".split() + ERRORS
METHODS = """append clear copy count endswith extend find get index insert isalnum isalpha isdigit islower isspace
    isupper items join keys ljust lower lstrip partition pop remove replace reverse rfind rjust rpartition rsplit
    rstrip setdefault split splitlines startswith strip update upper values zfill bit_length""".split()
PYTHON_NAMES = [name for name in dir(builtins) if not name.startswith("_")]
UNDERSCORED = ["__init__", "__eq__", "__repr__", "__str__", "__len__"]
WORDS = """type typing typing_extensions enum Enum IntEnum StrEnum Flag IntFlag Generic Protocol ABC ABCMeta namedtuple
    NamedTuple TypedDict TYPE_CHECKING abstractmethod""".split()
UNUSED_NAMES = "register mro elements open input version_info with_traceback add_note".split()
# What is walked on the spot, where it may stand, and what counts as a change of a list or dict.
WALKED = ["zip", "enumerate", "reversed", "range"]
WALKED_METHODS = ["items", "keys", "values"]
WALKERS = "list tuple dict sorted sum any all enumerate zip min max".split()
CHANGES = "append clear extend insert pop remove reverse setdefault update".split()
TAKEN_ERRORS = ["KeyError", "ZeroDivisionError", "StopIteration", "ValueError", "LookupError", "IndexError"]
NODES = """Module FunctionDef ClassDef arguments arg Assign AugAssign If While For Return Break Continue Pass Raise Try
    ExceptHandler Expr Call Constant Name Load Store Attribute Subscript Slice List Tuple Dict Set ListComp
    comprehension IfExp BoolOp And Or UnaryOp Not USub Invert BinOp Add Sub Mult FloorDiv Mod Pow BitAnd BitOr BitXor
    LShift RShift Compare Eq NotEq Lt LtE Gt GtE Is IsNot In NotIn Lambda JoinedStr FormattedValue ImportFrom alias
    keyword""".split()


def files():
    return sorted(PACKAGE.glob("*.py"))


def tree_of(path):
    return ast.parse(path.read_text(encoding="ascii"))


def nodes_of(kind):
    return [(path, node) for path in files() for node in ast.walk(tree_of(path)) if isinstance(node, kind)]


def drawn_from(path):
    modules = [node.module for node in tree_of(path).body if isinstance(node, ast.ImportFrom)]
    return [module.split(".")[1] for module in modules if module != "__future__"]


def top_names(path):
    names = []
    for node in tree_of(path).body:
        if isinstance(node, (ast.FunctionDef, ast.ClassDef)):
            names.append(node.name)
        elif isinstance(node, ast.Assign):
            names.append(node.targets[0].id)
    return names


def imported_names(path):
    return [name.name for node in tree_of(path).body if isinstance(node, ast.ImportFrom) for name in node.names]


def is_walked(call):
    if isinstance(call.func, ast.Name):
        return call.func.id in WALKED
    return isinstance(call.func, ast.Attribute) and call.func.attr in WALKED_METHODS


class TestLanguage(unittest.TestCase):
    def test_files(self):
        for path in PACKAGE.iterdir():
            if path.name != "__pycache__":
                self.assertRegex(path.name, r"^([a-z][a-z0-9_]*|__init__|__main__)\.py$")
        self.assertIn("__init__.py", [path.name for path in files()])

    def test_signs_and_sizes(self):
        for path in files():
            text = path.read_bytes().decode("ascii")
            self.assertEqual([sign for sign in text if not (" " <= sign <= "~" or sign == "\n")], [], path)
            self.assertLessEqual(len(text.splitlines()), 400, path)
            self.assertLessEqual(max([len(row) for row in text.splitlines()]), 120, path)
        for path, node in nodes_of(ast.FunctionDef):
            self.assertLessEqual(node.end_lineno - node.lineno + 1, 40, (path, node.name))

    def test_words(self):
        for path in files():
            text = path.read_text()
            self.assertEqual([word for word in WORDS if re.search(rf"\b{word}\b", text)], [], path)
            self.assertIsNone(re.search("dataclass|overload|contextmanager", text), path)

    def test_unused_names(self):
        for path, node in nodes_of((ast.Name, ast.Attribute, ast.arg, ast.FunctionDef, ast.ClassDef)):
            name = [getattr(node, part) for part in ("id", "attr", "arg", "name") if hasattr(node, part)][0]
            self.assertNotIn(name, UNUSED_NAMES, path)

    def test_only_the_nodes_that_are_allowed(self):
        for path, node in nodes_of(ast.AST):
            self.assertIn(type(node).__name__, NODES, (path, getattr(node, "lineno", None)))

    def test_the_top_of_each_file(self):
        for path in files():
            body = tree_of(path).body
            self.assertIsInstance(body[0], ast.Expr, path)
            for node in body[1:]:
                self.assertIsInstance(node, (ast.ImportFrom, ast.FunctionDef, ast.ClassDef, ast.Assign), path)
            names = top_names(path) + imported_names(path)
            self.assertEqual(len(names), len(set(names)), path)

    def test_top_values_are_plain(self):
        for path in files():
            body = tree_of(path).body
            functions = [node.name for node in body if isinstance(node, ast.FunctionDef)]
            for node in body:
                if isinstance(node, ast.Assign):
                    for part in ast.walk(node.value):
                        plain = (ast.Constant, ast.List, ast.Tuple, ast.Dict, ast.Load, ast.UnaryOp, ast.USub)
                        known = isinstance(part, ast.Name) and part.id in functions
                        self.assertTrue(known or isinstance(part, plain), (path, node.lineno))
                    inner = [part for part in ast.walk(node.value) if isinstance(part, (ast.List, ast.Dict))]
                    self.assertIn(inner, ([], [node.value]), (path, node.lineno))

    def test_imports(self):
        for path, node in nodes_of(ast.ImportFrom):
            if node.module == "__future__":
                continue
            self.assertEqual(node.level, 0, path)
            self.assertTrue(node.module.startswith("patchsquare."), path)
            source = PACKAGE / (node.module.split(".")[1] + ".py")
            for name in node.names:
                self.assertIn(name.name, top_names(source), path)
                self.assertIsNone(name.asname, path)

    def test_no_two_files_draw_from_one_another(self):
        draws = {path.stem: drawn_from(path) for path in files()}
        while draws:
            free = [name for name in draws if not [other for other in draws[name] if other in draws]]
            self.assertNotEqual(free, [], draws)
            draws = {name: draws[name] for name in draws if name not in free}

    def test_functions(self):
        for path, node in nodes_of(ast.FunctionDef):
            given = node.args
            self.assertEqual((given.vararg, given.kwarg), (None, None), path)
            self.assertEqual((given.kwonlyargs, given.posonlyargs), ([], []), path)
            self.assertEqual(node.decorator_list, [], path)
            self.assertIsNone(ast.get_docstring(node), (path, node.name))

    def test_classes(self):
        for path, node in nodes_of(ast.ClassDef):
            self.assertLessEqual(len(node.bases), 1, path)
            self.assertEqual((node.keywords, node.decorator_list), ([], []), path)
            for part in node.body:
                self.assertIsInstance(part, (ast.FunctionDef, ast.Pass), (path, node.name))
            methods = [part.name for part in node.body if isinstance(part, ast.FunctionDef)]
            self.assertEqual(len(methods), len(set(methods)), (path, node.name))

    def test_names(self):
        for path, node in nodes_of((ast.Name, ast.arg)):
            name = node.id if isinstance(node, ast.Name) else node.arg
            self.assertRegex(name, "^[A-Za-z]", path)
            if name in PYTHON_NAMES:
                self.assertIn(name, OWN_NAMES, path)
                self.assertFalse(isinstance(node, ast.arg) or isinstance(node.ctx, ast.Store), (path, name))
        for path, node in nodes_of((ast.FunctionDef, ast.ClassDef)):
            self.assertTrue(node.name in UNDERSCORED or re.match("[A-Za-z]", node.name), (path, node.name))
            self.assertNotIn(node.name, PYTHON_NAMES, path)

    def test_no_local_is_called_like_an_import_or_class(self):
        for path in files():
            taken = imported_names(path) + [n.name for n in tree_of(path).body if isinstance(n, ast.ClassDef)]
            for node in ast.walk(tree_of(path)):
                if isinstance(node, ast.arg) or isinstance(node, ast.Name) and isinstance(node.ctx, ast.Store):
                    name = node.arg if isinstance(node, ast.arg) else node.id
                    self.assertNotIn(name, taken, path)

    def test_methods(self):
        own = [node.name for path, node in nodes_of(ast.FunctionDef)]
        for path, node in nodes_of(ast.Call):
            if isinstance(node.func, ast.Attribute):
                self.assertIn(node.func.attr, METHODS + own, (path, node.lineno))

    def test_values(self):
        for path, node in nodes_of(ast.Constant):
            self.assertIn(type(node.value), (int, str, bool, type(None)), path)
            if isinstance(node.value, str):
                self.assertNotIn("%", node.value, path)

    def test_statements(self):
        for path, node in nodes_of((ast.For, ast.While)):
            self.assertEqual(node.orelse, [], path)
        for path, node in nodes_of(ast.Assign):
            self.assertEqual(len(node.targets), 1, path)
        for path, node in nodes_of(ast.ListComp):
            self.assertEqual(len(node.generators), 1, path)
            self.assertLessEqual(len(node.generators[0].ifs), 1, path)
        for path, node in nodes_of(ast.BinOp):
            if isinstance(node.op, ast.Pow):
                self.assertIsInstance(node.right, ast.Constant, (path, node.lineno))

    def test_is_stands_beside_none_true_and_false_alone(self):
        for path, node in nodes_of(ast.Compare):
            for op, right in zip(node.ops, node.comparators):
                if isinstance(op, (ast.Is, ast.IsNot)):
                    self.assertIsInstance(right, ast.Constant, (path, node.lineno))
                    self.assertIn(right.value, (None, True, False), (path, node.lineno))

    def test_errors_are_taken_by_name(self):
        own = top_names(PACKAGE / "errors.py")
        for path, node in nodes_of(ast.ExceptHandler):
            names = node.type.elts if isinstance(node.type, ast.Tuple) else [node.type]
            for name in names:
                self.assertIn(name.id, own + TAKEN_ERRORS, (path, node.lineno))

    def test_some_things_are_walked_on_the_spot(self):
        for path in files():
            tree = tree_of(path)
            fine = []
            for node in ast.walk(tree):
                if isinstance(node, (ast.For, ast.comprehension)):
                    fine.append(node.iter)
                if isinstance(node, ast.Call) and isinstance(node.func, ast.Name) and node.func.id in WALKERS:
                    fine.extend(node.args if node.func.id == "zip" else node.args[:1])
                if isinstance(node, ast.Call) and isinstance(node.func, ast.Attribute) and node.func.attr == "join":
                    fine.extend(node.args)
            for node in ast.walk(tree):
                if isinstance(node, ast.Call) and is_walked(node):
                    self.assertTrue(any(node is one for one in fine), (path, node.lineno))

    def test_what_a_loop_walks_is_not_changed_in_it(self):
        for path, loop in nodes_of(ast.For):
            walked = [loop.iter]
            if isinstance(loop.iter, ast.Call) and is_walked(loop.iter):
                walked = loop.iter.args + ([loop.iter.func.value] if isinstance(loop.iter.func, ast.Attribute) else [])
            names = [ast.unparse(one) for one in walked]
            for node in [inner for part in loop.body for inner in ast.walk(part)]:
                if isinstance(node, ast.Subscript) and isinstance(node.ctx, ast.Store):
                    self.assertNotIn(ast.unparse(node.value), names, (path, node.lineno))
                if isinstance(node, ast.Call) and isinstance(node.func, ast.Attribute) and node.func.attr in CHANGES:
                    self.assertNotIn(ast.unparse(node.func.value), names, (path, node.lineno))

    def test_sets_are_not_kept(self):
        for path, node in nodes_of((ast.Assign, ast.Return)):
            kept = node.value
            called = kept.func if isinstance(kept, ast.Call) else None
            made = isinstance(called, ast.Name) and called.id in ("set", "frozenset")
            self.assertFalse(made or isinstance(kept, ast.Set), (path, node.lineno))


if __name__ == "__main__":
    unittest.main()
