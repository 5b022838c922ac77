"""The package as a whole: where things are defined, and rules of the language that a look at the source can tell."""

import ast
import builtins
import os
import re
import unittest

FOLDER = os.path.join(os.path.dirname(os.path.dirname(os.path.abspath(__file__))), "unitwants")

# Per file: its functions, its classes with their methods.
INTERFACE = {
    "errors": ((), {name: () for name in (
        "UnitError", "NoTick", "NotReady", "NotBegun", "NotOn", "Running", "NoDoor", "Full", "NoText", "NoRow", "Lack",
        "Clash", "Knot", "NoUnit", "NoShelf")}),
    "rules": (("waits",), {"Rule": ("__init__", "__eq__", "__str__", "__repr__")}),
    "units": ((), {"Unit": ("__init__", "__eq__", "__repr__")}),
    "shelves": ((), {"Shelf": (
        "__init__", "__len__", "names", "has", "unit", "needing", "barred", "waited", "with_unit")}),
    "texts": (("show_unit", "show_shelf", "read_unit", "read_shelf"), {}),
    "follows": (("at_once", "followed", "chain", "clash_in"), {}),
    "knots": (("knot_in", "order_of"), {}),
    "stands": (("fits", "open_in"), {"Stand": ("__init__", "__eq__")}),
    "plans": (("plan_on", "plan_off", "behind"), {"Plan": ("__init__", "__len__")}),
    "papers": (("paper_on",), {}),
    "looker": (("holds",), {}),
    "machines": ((), {"Machine": (
        "__init__", "turn_on", "turn_off", "begin", "ended", "died", "put", "wake", "knock", "state", "wish", "due",
        "falls", "kept", "ready", "rows", "stand", "shelf", "last_tick")}),
    "ends": (("told_by", "foretold"), {}),
    "console": ((), {"Console": ("__init__", "say", "run")}),
}

BARRED_WORDS = (
    "type", "typing", "typing_extensions", "enum", "Enum", "IntEnum", "StrEnum", "Flag", "IntFlag", "Generic",
    "Protocol", "ABC", "ABCMeta", "namedtuple", "NamedTuple", "TypedDict", "TYPE_CHECKING", "abstractmethod")
BARRED_PARTS = ("dataclass", "overload", "contextmanager")
ALLOWED_BUILTINS = (
    "len", "range", "enumerate", "zip", "min", "max", "sum", "abs", "sorted", "reversed", "int", "str", "bool", "list",
    "tuple", "dict", "set", "isinstance", "ord", "repr", "any", "all", "divmod", "iter", "next", "Exception",
    "ValueError", "TypeError", "KeyError", "IndexError", "LookupError", "ZeroDivisionError", "ArithmeticError",
    "OverflowError", "RuntimeError", "NotImplementedError", "AttributeError", "StopIteration", "NotImplemented")
BUILTIN_METHODS = (
    "append", "clear", "copy", "count", "endswith", "extend", "find", "get", "index", "insert", "isalnum", "isalpha",
    "isdigit", "islower", "isspace", "isupper", "items", "join", "keys", "ljust", "lower", "lstrip", "partition", "pop",
    "remove", "replace", "reverse", "rfind", "rjust", "rpartition", "rsplit", "rstrip", "setdefault", "split",
    "splitlines", "startswith", "strip", "update", "upper", "values", "zfill", "bit_length")
SPECIAL_METHODS = ("__init__", "__eq__", "__repr__", "__str__", "__len__")
# A generator expression may stand in few places, as classes of the package have __eq__; so none is used at all.
BARRED_NODES = (
    ast.Global, ast.AsyncFunctionDef, ast.AsyncFor, ast.AsyncWith, ast.Await, ast.Import, ast.Div, ast.MatMult,
    ast.GeneratorExp)


def source_names():
    return sorted(name for name in os.listdir(FOLDER) if name != "__pycache__")


def source(name):
    with open(os.path.join(FOLDER, name), encoding="utf-8", newline="") as file:
        return file.read()


def trees():
    return [(name, ast.parse(source(name))) for name in source_names()]


def nodes(kind):
    return [(name, node) for name, tree in trees() for node in ast.walk(tree) if isinstance(node, kind)]


def own_methods():
    return {part.name for name, node in nodes(ast.ClassDef) for part in node.body if isinstance(part, ast.FunctionDef)}


def set_attributes():
    return {node.attr for name, node in nodes(ast.Attribute) if isinstance(node.ctx, ast.Store)}


class Interface(unittest.TestCase):
    def test_each_is_defined_in_its_file(self):
        for name, (functions, classes) in INTERFACE.items():
            body = ast.parse(source(name + ".py")).body
            defined = [node.name for node in body if isinstance(node, ast.FunctionDef)]
            made = {node.name: node for node in body if isinstance(node, ast.ClassDef)}
            for function in functions:
                self.assertIn(function, defined)
            for title, methods in classes.items():
                own = [node.name for node in made[title].body if isinstance(node, ast.FunctionDef)]
                for method in methods:
                    self.assertIn(method, own, title)


class Files(unittest.TestCase):
    def test_names(self):
        self.assertIn("__init__.py", source_names())
        for name in source_names():
            self.assertRegex(name, r"\A(__init__|__main__|[a-z][a-z0-9_]*)\.py\Z")

    def test_signs_and_sizes(self):
        for name in source_names():
            text = source(name)
            self.assertRegex(text, r"\A[ -~\n]*\Z", name)
            lines = text.splitlines()
            self.assertLessEqual(len(lines), 399, name)
            self.assertLessEqual(max(map(len, lines)), 120, name)

    def test_functions_are_small(self):
        for name, node in nodes(ast.FunctionDef):
            self.assertLessEqual(node.end_lineno - node.lineno + 1, 40, (name, node.name))

    def test_barred_words(self):
        for name in source_names():
            words = re.findall(r"\w+", source(name))
            for word in words:
                self.assertNotIn(word, BARRED_WORDS, name)
                for part in BARRED_PARTS:
                    self.assertNotIn(part, word, name)


class Language(unittest.TestCase):
    def test_imports_are_from_the_package_alone(self):
        for name, node in nodes(ast.ImportFrom):
            self.assertEqual(node.level, 0, name)
            self.assertRegex(node.module, r"\Aunitwants\.[a-z_]+\Z", name)
            self.assertIn(node.module.split(".")[1] + ".py", source_names())

    def test_no_two_files_import_each_other(self):
        reached = {name: [] for name in source_names()}
        for name, node in nodes(ast.ImportFrom):
            reached[name].append(node.module.split(".")[1] + ".py")
        done = []
        while len(done) < len(reached):
            free = [name for name in reached if name not in done and all(other in done for other in reached[name])]
            self.assertNotEqual(free, [], "files import from each other")
            done.extend(free)

    def test_barred_statements_and_signs(self):
        self.assertEqual([(name, node) for name, node in nodes(BARRED_NODES)], [])

    def test_only_listed_builtins(self):
        for name, node in nodes(ast.Name):
            if hasattr(builtins, node.id):
                self.assertIn(node.id, ALLOWED_BUILTINS, (name, node.lineno))
                self.assertIsInstance(node.ctx, ast.Load, (name, node.lineno))

    def test_names_are_plain(self):
        for name, node in nodes((ast.FunctionDef, ast.ClassDef)):
            if node.name not in SPECIAL_METHODS:
                self.assertRegex(node.name, r"\A[A-Za-z][A-Za-z0-9_]*\Z", name)
                self.assertFalse(hasattr(builtins, node.name), (name, node.name))
        for name, node in nodes(ast.arg):
            self.assertRegex(node.arg, r"\A[a-z][a-z0-9_]*\Z", name)
            self.assertFalse(hasattr(builtins, node.arg), (name, node.arg))
        for name, node in nodes(ast.Name):
            self.assertFalse(node.id.startswith("_"), (name, node.lineno))

    def test_is_stands_beside_none_and_truths_only(self):
        for name, node in nodes(ast.Compare):
            for sign, right in zip(node.ops, node.comparators):
                if isinstance(sign, (ast.Is, ast.IsNot)):
                    self.assertIsInstance(right, ast.Constant, (name, node.lineno))
                    self.assertIn(repr(right.value), ("None", "True", "False"), (name, node.lineno))

    def test_powers_have_literal_exponents(self):
        for name, node in nodes(ast.BinOp):
            if isinstance(node.op, ast.Pow):
                self.assertIsInstance(node.right, ast.Constant, (name, node.lineno))

    def test_literals(self):
        for name, node in nodes(ast.Constant):
            self.assertNotIsInstance(node.value, (float, complex), (name, node.lineno))
            if isinstance(node.value, str):
                self.assertNotIn("%", node.value, (name, node.lineno))

    def test_no_name_is_both_a_method_and_an_attribute(self):
        self.assertEqual(own_methods() & set_attributes(), set())

    def test_attributes_that_are_read_are_set_or_methods(self):
        known = own_methods() | set_attributes() | set(BUILTIN_METHODS)
        for name, node in nodes(ast.Attribute):
            self.assertIn(node.attr, known, (name, node.lineno))

    def test_no_local_name_is_that_of_a_class_or_an_import(self):
        for name, tree in trees():
            taken = {node.name for node in tree.body if isinstance(node, ast.ClassDef)}
            taken |= {part.name for node in tree.body if isinstance(node, ast.ImportFrom) for part in node.names}
            taken |= {node.name for node in tree.body if isinstance(node, ast.FunctionDef)}
            for node in ast.walk(tree):
                if isinstance(node, ast.arg):
                    self.assertNotIn(node.arg, taken, name)
                if isinstance(node, ast.Name) and isinstance(node.ctx, ast.Store):
                    self.assertNotIn(node.id, taken, (name, node.lineno))

    def test_each_import_is_from_the_file_that_defines_it(self):
        for name, node in nodes(ast.ImportFrom):
            body = ast.parse(source(node.module.split(".")[1] + ".py")).body
            defined = [part.name for part in body if isinstance(part, (ast.FunctionDef, ast.ClassDef))]
            defined += [part.targets[0].id for part in body if isinstance(part, ast.Assign)]
            for part in node.names:
                self.assertIn(part.name, defined, name)


if __name__ == "__main__":
    unittest.main()
