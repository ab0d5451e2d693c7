"""The rules of ../shared/LANGUAGE.md that a short program can see, for every file of the package."""

import ast
import builtins
import pathlib
import re
import unittest

PACKAGE = pathlib.Path(__file__).resolve().parent.parent / "mustoccur"

ALLOWED_BUILTINS = set(
    "len range enumerate zip min max sum abs sorted reversed int str bool bytes list tuple dict set frozenset "
    "isinstance ord repr any all divmod iter next super property staticmethod classmethod Exception ValueError "
    "TypeError KeyError IndexError LookupError ZeroDivisionError ArithmeticError OverflowError RuntimeError "
    "NotImplementedError AttributeError StopIteration NotImplemented".split())
ALLOWED_METHODS = set(
    "append clear copy count endswith extend find get index insert isalnum isalpha isdigit islower isspace isupper "
    "items join keys ljust lower lstrip partition pop remove replace reverse rfind rjust rpartition rsplit rstrip "
    "setdefault split splitlines startswith strip update upper values zfill bit_length add discard "
    "__init__".split())
BARRED_WORDS = re.compile(
    r"\b(type|typing|typing_extensions|enum|Enum|IntEnum|StrEnum|Flag|IntFlag|Generic|Protocol|ABC|ABCMeta|"
    r"namedtuple|NamedTuple|TypedDict|TYPE_CHECKING|abstractmethod)\b|dataclass|overload|contextmanager")
BARRED_NAMES = set(
    "register mro elements open input law version_info with_traceback add_note args format format_map".split())
BARRED_NODES = (
    ast.Global, ast.AsyncFunctionDef, ast.AsyncFor, ast.AsyncWith, ast.Await, ast.Div, ast.Import, ast.MatMult,
    ast.GeneratorExp, ast.SetComp)
CATCHABLE = {"KeyError", "ZeroDivisionError", "ValueError", "LookupError", "IndexError"}


def files():
    return sorted(PACKAGE.glob("*.py"))


def trees():
    return [(path.stem, ast.parse(path.read_text())) for path in files()]


def nodes(kind):
    return [(name, node) for name, tree in trees() for node in ast.walk(tree) if isinstance(node, kind)]


def defined(tree):
    """The names that a module defines itself."""
    names = []
    for node in tree.body:
        if isinstance(node, (ast.FunctionDef, ast.ClassDef)):
            names.append(node.name)
        if isinstance(node, ast.Assign):
            names += [target.id for target in node.targets]
    return names


def bound_names(tree):
    """All names that are bound anywhere in a module, attributes excepted."""
    names = []
    for node in ast.walk(tree):
        if isinstance(node, ast.Name) and isinstance(node.ctx, ast.Store):
            names.append(node.id)
        if isinstance(node, ast.arg):
            names.append(node.arg)
        if isinstance(node, (ast.FunctionDef, ast.ClassDef)):
            names.append(node.name)
    return names


class Files(unittest.TestCase):

    def test_only_python_files(self):
        for path in PACKAGE.iterdir():
            if path.name != "__pycache__":
                self.assertRegex(path.name, r"^[a-z0-9_]+\.py$")

    def test_size_and_characters(self):
        for path in files():
            lines = path.read_text().split("\n")
            self.assertLessEqual(len(lines), 400, path.name)
            for number, line in enumerate(lines, 1):
                self.assertLessEqual(len(line), 120, (path.name, number))
                self.assertRegex(line, r"^[ -~]*$", (path.name, number))
                self.assertIsNone(BARRED_WORDS.search(line), (path.name, number))

    def test_functions_are_short(self):
        for name, node in nodes(ast.FunctionDef):
            self.assertLessEqual(node.end_lineno - node.lineno + 1, 40, (name, node.name))


class Modules(unittest.TestCase):

    def test_module_level(self):
        for name, tree in trees():
            for node in tree.body:
                kinds = (ast.Expr, ast.ImportFrom, ast.FunctionDef, ast.ClassDef, ast.Assign)
                self.assertIsInstance(node, kinds, (name, node.lineno))
                if isinstance(node, ast.Expr):
                    self.assertIsInstance(node.value, ast.Constant, (name, node.lineno))

    def test_imports_name_the_file_that_defines(self):
        modules = dict(trees())
        for name, node in nodes(ast.ImportFrom):
            self.assertEqual(node.level, 0, name)
            self.assertRegex(node.module, r"^mustoccur\.[a-z]+$")
            for alias in node.names:
                self.assertIn(alias.name, defined(modules[node.module.split(".")[1]]), name)

    def test_no_import_circle(self):
        imports = {name: [] for name, _ in trees()}
        for name, node in nodes(ast.ImportFrom):
            imports[name].append(node.module.split(".")[1])
        left = set(imports)
        while left:
            ready = {name for name in left if not left & set(imports[name])}
            self.assertTrue(ready, left)
            left -= ready

    def test_one_binding_for_each_name(self):
        for name, tree in trees():
            imported = [alias.asname or alias.name for node in tree.body if isinstance(node, ast.ImportFrom)
                        for alias in node.names]
            own = defined(tree) + imported
            self.assertEqual(len(own), len(set(own)), name)
            classes = [node.name for node in tree.body if isinstance(node, ast.ClassDef)]
            self.assertEqual(set(imported) & set(bound_names(tree)), set(), name)
            self.assertEqual([bound_names(tree).count(each) for each in classes], [1] * len(classes), name)


class Names(unittest.TestCase):

    def test_plain_names(self):
        for name, tree in trees():
            for bound in bound_names(tree):
                if bound not in ("__init__", "__eq__", "__len__"):
                    self.assertRegex(bound, r"^[A-Za-z][A-Za-z0-9_]*$", name)
                self.assertNotIn(bound, dir(builtins), name)
                self.assertNotIn(bound, BARRED_NAMES, name)

    def test_builtins(self):
        for name, node in nodes(ast.Name):
            if node.id in dir(builtins):
                self.assertIn(node.id, ALLOWED_BUILTINS, (name, node.lineno))

    def test_methods_and_attributes(self):
        methods = {row.name for _, node in nodes(ast.ClassDef) for row in node.body if isinstance(row, ast.FunctionDef)}
        stored = {node.attr for _, node in nodes(ast.Attribute) if isinstance(node.ctx, ast.Store)}
        self.assertEqual(methods & stored, set())
        for name, node in nodes(ast.Attribute):
            self.assertIn(node.attr, methods | stored | ALLOWED_METHODS, (name, node.lineno))
            self.assertNotIn(node.attr, BARRED_NAMES, (name, node.lineno))


class Statements(unittest.TestCase):

    def test_barred_kinds(self):
        # Generator and set expressions are allowed in places; the package does without them.
        self.assertEqual([(name, ast.dump(node)) for name, node in nodes(BARRED_NODES)], [])

    def test_constants(self):
        for name, node in nodes(ast.Constant):
            self.assertNotIsInstance(node.value, (float, complex), (name, node.lineno))
            if isinstance(node.value, str):
                self.assertNotIn("%", node.value, (name, node.lineno))

    def test_is(self):
        for name, node in nodes(ast.Compare):
            for sign, right in zip(node.ops, node.comparators):
                if isinstance(sign, (ast.Is, ast.IsNot)):
                    self.assertIn(ast.dump(right), [ast.dump(ast.Constant(x)) for x in (None, True, False)], name)

    def test_power(self):
        for name, node in nodes(ast.BinOp):
            if isinstance(node.op, ast.Pow):
                self.assertIsInstance(node.right, ast.Constant, (name, node.lineno))

    def test_raise_creates_its_error(self):
        own = [node.name for name, node in nodes(ast.ClassDef) if name == "errors"]
        for name, node in nodes(ast.Raise):
            if node.exc is not None:
                self.assertIsInstance(node.exc, ast.Call, (name, node.lineno))
                self.assertIn(node.exc.func.id, own, (name, node.lineno))

    def test_handlers(self):
        own = {node.name for name, node in nodes(ast.ClassDef) if name == "errors"}
        for name, node in nodes(ast.ExceptHandler):
            caught = node.type.elts if isinstance(node.type, ast.Tuple) else [node.type]
            for error in caught:
                self.assertIn(error.id, own | CATCHABLE, (name, node.lineno))


if __name__ == "__main__":
    unittest.main()
