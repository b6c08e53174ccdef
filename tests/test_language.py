"""The rules of LANGUAGE.md that can be checked simply, over every file of the package."""

import ast
import builtins
import pathlib
import re
import unittest

PACKAGE = pathlib.Path(__file__).resolve().parent.parent / "leastjournal"

ALLOWED_BUILTINS = set(
    "len range enumerate zip min max sum abs sorted reversed int str bool bytes list tuple dict set frozenset"
    " isinstance ord repr any all divmod iter next Exception ValueError TypeError KeyError IndexError LookupError"
    " ZeroDivisionError ArithmeticError OverflowError RuntimeError NotImplementedError AttributeError"
    " StopIteration NotImplemented super property staticmethod classmethod".split()
)
BARRED_NAMES = set("register mro elements open input law version_info with_traceback add_note".split())
SPECIAL_METHODS = ("__init__", "__eq__", "__repr__", "__str__", "__len__")
BARRED_WORDS = re.compile(
    r"\b(type|typing|typing_extensions|enum|Enum|IntEnum|StrEnum|Flag|IntFlag|Generic|Protocol|ABC|ABCMeta|namedtuple"
    r"|NamedTuple|TypedDict|TYPE_CHECKING|abstractmethod)\b|dataclass|overload|contextmanager"
)
MODULE_LEVEL = (ast.ImportFrom, ast.FunctionDef, ast.ClassDef, ast.Assign)
BARRED_NODES = (
    ast.Global,
    ast.AsyncFunctionDef,
    ast.AsyncFor,
    ast.AsyncWith,
    ast.Await,
    ast.Import,
    ast.Div,
    ast.MatMult,
)


BUILTIN_METHODS = set(
    "append clear copy count endswith extend find get index insert isalnum isalpha isdigit islower isspace isupper items"
    " join keys ljust lower lstrip partition pop remove replace reverse rfind rjust rpartition rsplit rstrip setdefault"
    " split splitlines startswith strip update upper values zfill bit_length".split()
)
LIST_TAKERS = ("any", "all", "min", "max", "sum", "sorted")


def package_files():
    return sorted(path for path in PACKAGE.iterdir() if path.name != "__pycache__")


def bound_names(tree):
    """Return every name that a file gives a meaning to, attributes excluded."""
    names = []
    for node in ast.walk(tree):
        if isinstance(node, ast.Name) and not isinstance(node.ctx, ast.Load):
            names.append(node.id)
        elif isinstance(node, ast.arg):
            names.append(node.arg)
        elif isinstance(node, (ast.FunctionDef, ast.ClassDef)):
            names.append(node.name)
        elif isinstance(node, ast.ImportFrom):
            names += [alias.asname or alias.name for alias in node.names]
    return names


def each_tree():
    """Return (path, tree) for each file of the package."""
    return [(path, ast.parse(path.read_text(encoding="ascii"))) for path in package_files()]


def methods_and_attributes():
    """Return the names of all methods, and of all attributes that are assigned."""
    methods, attributes = set(), set()
    for _, tree in each_tree():
        for node in ast.walk(tree):
            if isinstance(node, ast.ClassDef):
                methods.update(part.name for part in node.body if isinstance(part, ast.FunctionDef))
            elif isinstance(node, ast.Attribute) and isinstance(node.ctx, ast.Store):
                attributes.add(node.attr)
    return methods, attributes


def local_names(function):
    """Return the parameters and the names that a function assigns."""
    return bound_names(ast.Module(body=[function.args, *function.body], type_ignores=[]))


class LanguageTest(unittest.TestCase):
    def test_files(self):
        self.assertTrue(package_files())
        for path in package_files():
            self.assertTrue(path.is_file(), path)
            self.assertRegex(path.name, r"^[a-z][a-z0-9_]*\.py$|^__init__\.py$")

    def test_characters_and_sizes(self):
        for path in package_files():
            text = path.read_text(encoding="utf-8")
            self.assertRegex(text, r"\A[ -~\n]*\Z", path)
            lines = text.splitlines()
            self.assertLessEqual(len(lines), 399, path)
            self.assertLessEqual(max(map(len, lines)), 120, path)
            self.assertIsNone(BARRED_WORDS.search(text), path)

    def test_functions_are_short(self):
        for path, tree in each_tree():
            for node in ast.walk(tree):
                if isinstance(node, ast.FunctionDef):
                    self.assertLessEqual(node.end_lineno - node.lineno + 1, 40, (path, node.name))

    def test_module_level(self):
        for path, tree in each_tree():
            self.assertIsNotNone(ast.get_docstring(tree), path)
            for node in tree.body[1:]:
                self.assertIsInstance(node, MODULE_LEVEL, (path, node.lineno))

    def test_imports_name_the_defining_file(self):
        for path, tree in each_tree():
            for node in ast.walk(tree):
                if isinstance(node, ast.ImportFrom):
                    self.assertRegex(node.module, r"^leastjournal\.[a-z_]+$", path)
                    self.assertEqual(node.level, 0)
                    source = PACKAGE / (node.module.split(".")[1] + ".py")
                    known = [one.name for one in ast.parse(source.read_text()).body if hasattr(one, "name")]
                    known += re.findall(r"(?m)^([A-Z_]+) = ", source.read_text())
                    for alias in node.names:
                        self.assertIn(alias.name, known, (path, node.lineno))

    def test_statements_and_values(self):
        for path, tree in each_tree():
            for node in ast.walk(tree):
                self.assertNotIsInstance(node, BARRED_NODES, (path, getattr(node, "lineno", 0)))
                if isinstance(node, ast.Constant):
                    self.assertNotIsInstance(node.value, (float, complex), (path, node.lineno))
                    if isinstance(node.value, str):
                        self.assertNotIn("%", node.value, (path, node.lineno))

    def test_names(self):
        for path, tree in each_tree():
            for name in bound_names(tree):
                self.assertNotIn(name, BARRED_NAMES, path)
                if name not in SPECIAL_METHODS:
                    self.assertFalse(hasattr(builtins, name), (path, name))
                    self.assertRegex(name, r"^[A-Za-z][A-Za-z0-9_]*$", path)

    def test_builtins(self):
        for path, tree in each_tree():
            own = set(bound_names(tree))
            for node in ast.walk(tree):
                if isinstance(node, ast.Name) and node.id not in own:
                    self.assertIn(node.id, ALLOWED_BUILTINS, (path, node.lineno))

    def test_methods_and_attributes_have_unlike_names(self):
        methods, attributes = methods_and_attributes()
        self.assertEqual(methods & attributes, set())
        for kind in (str, int, list, dict, set, bytes, tuple):
            self.assertEqual({name for name in methods | attributes if hasattr(kind, name)} - set(SPECIAL_METHODS), set())

    def test_attributes_that_are_read_and_methods_that_are_called(self):
        methods, attributes = methods_and_attributes()
        for path, tree in each_tree():
            called = [node.func for node in ast.walk(tree) if isinstance(node, ast.Call)]
            for node in ast.walk(tree):
                if isinstance(node, ast.Attribute):
                    known = methods | BUILTIN_METHODS if node in called else attributes
                    self.assertIn(node.attr, known, (path, node.lineno))

    def test_local_names_are_not_imports_or_classes(self):
        for path, tree in each_tree():
            taken = {node.name for node in tree.body if isinstance(node, ast.ClassDef)}
            taken.update(alias.name for node in tree.body if isinstance(node, ast.ImportFrom) for alias in node.names)
            for node in ast.walk(tree):
                if isinstance(node, ast.FunctionDef):
                    self.assertEqual(taken & set(local_names(node)), set(), (path, node.name))

    def test_calls_and_comparisons(self):
        for path, tree in each_tree():
            for node in ast.walk(tree):
                if isinstance(node, ast.Call) and isinstance(node.func, ast.Name) and node.func.id in LIST_TAKERS:
                    self.assertNotIsInstance(node.args[0], ast.GeneratorExp, (path, node.lineno))
                if isinstance(node, ast.Compare):
                    for sign, right in zip(node.ops, node.comparators):
                        if isinstance(sign, (ast.Is, ast.IsNot)):
                            self.assertIsInstance(right, ast.Constant, (path, node.lineno))

    def test_no_two_files_import_from_each_other(self):
        below = {}
        for path, tree in each_tree():
            below[path.stem] = {node.module.split(".")[1] for node in tree.body if isinstance(node, ast.ImportFrom)}
        while below:
            free = [name for name, needs in below.items() if not needs & set(below)]
            self.assertNotEqual(free, [], below)
            for name in free:
                del below[name]


if __name__ == "__main__":
    unittest.main()
