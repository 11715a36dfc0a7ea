"""The rules of the language that a plain look at the files can tell: sizes, signs, words, imports, names."""

import ast
import pathlib
import re
import unittest

PACKAGE = pathlib.Path(__file__).resolve().parent.parent / "boughkept"
BARRED = re.compile(
    r"\b(type|typing|typing_extensions|enum|Enum|IntEnum|StrEnum|Flag|IntFlag|Generic|Protocol|ABC|ABCMeta|namedtuple"
    r"|NamedTuple|TypedDict|TYPE_CHECKING|abstractmethod)\b|dataclass|overload|contextmanager"
)
BUILTINS = {
    "len", "range", "enumerate", "zip", "min", "max", "sum", "abs", "sorted", "reversed", "int", "str", "bool", "bytes",
    "list", "tuple", "dict", "set", "frozenset", "isinstance", "ord", "repr", "any", "all", "divmod", "iter", "next",
    "super", "property", "staticmethod", "classmethod", "Exception", "ValueError", "TypeError", "KeyError", "IndexError",
    "LookupError", "ZeroDivisionError", "ArithmeticError", "OverflowError", "RuntimeError", "NotImplementedError",
    "AttributeError", "StopIteration", "NotImplemented",
}
BUILTIN_METHODS = {
    "append", "bit_length", "endswith", "extend", "get", "index", "insert", "items", "join", "keys", "partition", "pop", "replace",
    "split", "startswith", "strip", "values", "zfill", "__init__",
}
# names of methods that builtin values change by, or that are barred outright
TAKEN_NAMES = {
    "append", "args", "clear", "decode", "elements", "encode", "extend", "format", "hex", "input", "insert", "items",
    "keys", "law", "mro", "open", "pop", "register", "remove", "reverse", "setdefault", "sort", "update", "values",
}
TAKE_LISTS = {"any", "all", "min", "max", "sum", "sorted"}


def nodes_of(tree, *kinds):
    return [node for node in ast.walk(tree) if isinstance(node, kinds)]


def bound_names(tree):
    """All names that a file gives a meaning."""
    told = set()
    for node in ast.walk(tree):
        if isinstance(node, ast.Name) and not isinstance(node.ctx, ast.Load):
            told.add(node.id)
        elif isinstance(node, (ast.FunctionDef, ast.ClassDef)):
            told.add(node.name)
        elif isinstance(node, ast.arg):
            told.add(node.arg)
        elif isinstance(node, ast.ImportFrom):
            told.update([alias.asname or alias.name for alias in node.names])
    return told


class TestLanguage(unittest.TestCase):
    def setUp(self):
        self.texts = {path.name: path.read_text("utf-8") for path in sorted(PACKAGE.glob("*.py"))}
        self.trees = {name: ast.parse(text) for name, text in self.texts.items()}

    def test_the_folder_has_files_alone(self):
        found = [path.name for path in PACKAGE.iterdir() if path.name != "__pycache__"]
        self.assertEqual(sorted(found), sorted(self.texts))
        self.assertIn("__init__.py", found)

    def test_sizes_and_signs(self):
        for name, text in self.texts.items():
            rows = text.split("\n")
            self.assertLessEqual(len(rows), 400, name)
            self.assertTrue(text.endswith("\n"), name)
            for row in rows:
                self.assertLessEqual(len(row), 120, (name, row))
                self.assertRegex(row, r"\A[ -~]*\Z", name)
            for node in nodes_of(self.trees[name], ast.FunctionDef):
                self.assertLessEqual(node.end_lineno - node.lineno + 1, 40, (name, node.name))

    def test_words(self):
        for name, text in self.texts.items():
            self.assertIsNone(BARRED.search(text), name)
            for node in nodes_of(self.trees[name], ast.Constant):
                self.assertNotIsInstance(node.value, float, name)
                if isinstance(node.value, str):
                    self.assertNotIn("%", node.value, name)

    def test_imports(self):
        for name, tree in self.trees.items():
            self.assertEqual(nodes_of(tree, ast.Import), [], name)
            for node in nodes_of(tree, ast.ImportFrom):
                self.assertIn(node, tree.body, name)
                self.assertEqual(node.level, 0, name)
                package, dot, module = node.module.partition(".")
                self.assertEqual((package, module + ".py" in self.texts), ("boughkept", True), name)
                defined = bound_names(ast.Module(self.trees[module + ".py"].body, []))
                imported = [other for row in nodes_of(self.trees[module + ".py"], ast.ImportFrom) for other in row.names]
                for alias in node.names:
                    self.assertIn(alias.name, defined - {other.name for other in imported}, name)

    def test_statements(self):
        barred = (ast.Global, ast.AsyncFunctionDef, ast.Await, ast.Div)
        for name, tree in self.trees.items():
            for node in ast.walk(tree):
                self.assertNotIsInstance(node, barred, name)
                if isinstance(node, ast.Compare) and isinstance(node.ops[0], (ast.Is, ast.IsNot)):
                    self.assertIsInstance(node.comparators[0], ast.Constant, (name, node.lineno))

    def test_builtins(self):
        for name, tree in self.trees.items():
            bound = bound_names(tree)
            self.assertEqual(bound & BUILTINS, set(), name)
            for other in bound:
                self.assertTrue(not other.startswith("_") or re.fullmatch("__[a-z]+__", other), (name, other))
            for node in nodes_of(tree, ast.Name):
                self.assertIn(node.id, bound | BUILTINS, (name, node.lineno))

    def test_lists_where_classes_compare(self):
        for name, tree in self.trees.items():
            for node in nodes_of(tree, ast.Call):
                if isinstance(node.func, ast.Name) and node.func.id in TAKE_LISTS:
                    for argument in node.args:
                        self.assertNotIsInstance(argument, ast.GeneratorExp, (name, node.lineno))

    def test_methods_and_attributes_apart(self):
        methods, attributes, read = set(), set(), set()
        for tree in self.trees.values():
            for made in nodes_of(tree, ast.ClassDef):
                methods.update([node.name for node in made.body if isinstance(node, ast.FunctionDef)])
            for node in nodes_of(tree, ast.Attribute):
                (read if isinstance(node.ctx, ast.Load) else attributes).add(node.attr)
        self.assertEqual(methods & attributes, set())
        self.assertEqual(read - methods - attributes - BUILTIN_METHODS, set())
        self.assertEqual((methods | attributes) & TAKEN_NAMES, set())

    def test_imports_and_classes_keep_their_names(self):
        for name, tree in self.trees.items():
            taken = {alias.name for node in nodes_of(tree, ast.ImportFrom) for alias in node.names}
            taken.update([node.name for node in nodes_of(tree, ast.ClassDef)])
            bound = {node.id for node in nodes_of(tree, ast.Name) if not isinstance(node.ctx, ast.Load)}
            bound.update([node.arg for node in nodes_of(tree, ast.arg)])
            self.assertEqual(bound & taken, set(), name)
            for node in tree.body:
                if isinstance(node, ast.Assign):
                    self.assertEqual([type(target) for target in node.targets], [ast.Name], name)

    def test_powers_are_literal(self):
        for name, tree in self.trees.items():
            for node in nodes_of(tree, ast.BinOp):
                if isinstance(node.op, ast.Pow):
                    self.assertIsInstance(node.right, ast.Constant, (name, node.lineno))

    def test_files_import_in_one_direction(self):
        above = {}
        for name, tree in self.trees.items():
            above[name] = {node.module.partition(".")[2] + ".py" for node in nodes_of(tree, ast.ImportFrom)}
        left = set(above)
        while left:
            free = {name for name in left if not above[name] & left}
            self.assertTrue(free, left)
            left -= free


if __name__ == "__main__":
    unittest.main()
