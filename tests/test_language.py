"""The package keeps to the subset of Python that it is written in; what it does not use yet is not let in here."""

import ast
import unittest
from pathlib import Path

FOLDER = Path(__file__).resolve().parent.parent / "slitsheets"
FILES = sorted(path for path in FOLDER.rglob("*") if path.is_file() and path.parent.name != "__pycache__")
LIBRARY = {"math": {"gcd", "isqrt", "lcm"}}
NODES = (
    ast.Module, ast.FunctionDef, ast.ClassDef, ast.arguments, ast.arg, ast.ImportFrom, ast.alias, ast.Return,
    ast.Assign, ast.AugAssign, ast.For, ast.While, ast.If, ast.Raise, ast.Expr, ast.BoolOp, ast.And, ast.Or,
    ast.BinOp, ast.Add, ast.Sub, ast.Mult, ast.FloorDiv, ast.Mod, ast.UnaryOp, ast.Not, ast.USub, ast.IfExp,
    ast.ListComp, ast.DictComp, ast.comprehension, ast.Compare, ast.Eq, ast.NotEq, ast.Lt, ast.LtE, ast.Gt,
    ast.GtE, ast.Call, ast.keyword, ast.Constant, ast.Attribute, ast.Subscript, ast.Name, ast.List, ast.Tuple,
    ast.Load, ast.Store, ast.Break, ast.Continue, ast.Pass, ast.In, ast.NotIn, ast.Is, ast.IsNot, ast.Dict)
BUILTINS = {
    "len", "range", "enumerate", "zip", "min", "max", "sum", "abs", "sorted", "reversed", "int", "str", "bool", "list",
    "tuple", "dict", "isinstance", "any", "all", "divmod", "ValueError"}
METHODS = {"append", "extend", "get", "items", "keys", "values", "pop", "index", "insert", "count", "join", "reverse"}
NEVER_NAMES = {
    "register", "mro", "elements", "open", "input", "law", "type", "id", "hash", "next", "iter", "map", "filter", "set",
    "round", "pow", "vars", "dir", "super", "slice", "object", "format", "repr", "print", "eval", "exec", "compile"}


def bound_names(tree):
    names = []
    for node in ast.walk(tree):
        if isinstance(node, (ast.FunctionDef, ast.ClassDef)):
            names.append(node.name)
        elif isinstance(node, ast.arg):
            names.append(node.arg)
        elif isinstance(node, ast.alias):
            names.append(node.name)
        elif isinstance(node, ast.Name) and isinstance(node.ctx, ast.Store):
            names.append(node.id)
    return names


def top_names(tree):
    """The names of the functions, classes and values that a file defines."""
    names = [node.name for node in tree.body if isinstance(node, (ast.FunctionDef, ast.ClassDef))]
    return names + [target.id for node in tree.body if isinstance(node, ast.Assign) for target in node.targets]


def imports(tree):
    return [node for node in tree.body if isinstance(node, ast.ImportFrom)]


class Language(unittest.TestCase):

    def setUp(self):
        self.trees = {path: ast.parse(path.read_text("utf-8")) for path in FILES}

    def test_the_package_is_python_files_of_plain_text(self):
        self.assertGreater(len(FILES), 1)
        for path in FILES:
            self.assertEqual((path.suffix, path.parent), (".py", FOLDER))
            self.assertRegex(path.name, r"^[a-z_][a-z0-9_]*\.py$")
            text = path.read_text("utf-8")
            self.assertRegex(text, r"\A[ -~\n]*\n\Z", path.name)
            self.assertLessEqual(len(text.splitlines()), 399, path.name)
            self.assertLessEqual(max(map(len, text.splitlines())), 120, path.name)

    def test_functions_are_short_and_plain(self):
        for path, tree in self.trees.items():
            for node in ast.walk(tree):
                if isinstance(node, ast.FunctionDef):
                    self.assertLessEqual(node.end_lineno - node.lineno + 1, 40, (path.name, node.name))
                    self.assertEqual(node.decorator_list, [], (path.name, node.name))

    def test_only_plain_statements_and_expressions(self):
        for path, tree in self.trees.items():
            for node in ast.walk(tree):
                self.assertIsInstance(node, NODES, (path.name, getattr(node, "lineno", 0)))
                if isinstance(node, ast.Constant):
                    self.assertIn(type(node.value), (int, str, bool, type(None)), (path.name, node.lineno))
                    self.assertNotIn("%", str(node.value), (path.name, node.lineno))
                if isinstance(node, ast.Raise):
                    self.assertIsInstance(node.exc, ast.Call, (path.name, node.lineno))

    def test_module_level(self):
        for path, tree in self.trees.items():
            for at, node in enumerate(tree.body):
                self.assertIsInstance(
                    node, (ast.ImportFrom, ast.FunctionDef, ast.ClassDef, ast.Assign, ast.Expr), path.name)
                if isinstance(node, ast.Expr):
                    self.assertEqual(at, 0, path.name)
                if isinstance(node, ast.Assign):
                    self.assertIsInstance(ast.literal_eval(node.value), (int, str, tuple), path.name)

    def test_imports_name_the_defining_file_and_make_no_ring(self):
        needed = {}
        for path, tree in self.trees.items():
            needed[path.stem] = []
            for node in imports(tree):
                self.assertEqual(node.level, 0)
                if node.module in LIBRARY:
                    self.assertLessEqual({alias.name for alias in node.names}, LIBRARY[node.module], path.name)
                    continue
                package, _, module = node.module.partition(".")
                self.assertEqual(package, "slitsheets", path.name)
                needed[path.stem].append(module)
                defined = top_names(self.trees[FOLDER / (module + ".py")])
                for alias in node.names:
                    self.assertIn(alias.name, defined, path.name)
                    self.assertIsNone(alias.asname, path.name)
        while needed:
            free = [stem for stem, modules in needed.items() if not set(modules) & set(needed)]
            self.assertTrue(free, "a ring of imports: " + ", ".join(needed))
            needed = {stem: modules for stem, modules in needed.items() if stem not in free}

    def test_names_are_plain_and_bound_to_one_thing(self):
        for path, tree in self.trees.items():
            tops = top_names(tree)
            tops += [alias.name for node in imports(tree) for alias in node.names]
            self.assertEqual(len(tops), len(set(tops)), path.name)
            for name in bound_names(tree):
                self.assertRegex(name, r"^(_?[A-Za-z][A-Za-z0-9_]*|_|__init__)$", path.name)
                self.assertNotIn(name, BUILTINS | NEVER_NAMES, path.name)
            inner = [name for node in tree.body if isinstance(node, (ast.FunctionDef, ast.ClassDef))
                     for part in ast.iter_child_nodes(node) for name in bound_names(part)]
            self.assertEqual(set(inner) & set(tops), set(), path.name)

    def test_only_known_builtins_and_methods_are_used(self):
        for path, tree in self.trees.items():
            known = BUILTINS | set(bound_names(tree))
            for node in ast.walk(tree):
                if isinstance(node, ast.Name):
                    self.assertIn(node.id, known, (path.name, node.lineno))
                if isinstance(node, ast.Name) and isinstance(node.ctx, ast.Load):
                    self.assertNotEqual(node.id, "_", (path.name, node.lineno))
                if isinstance(node, ast.Call) and isinstance(node.func, ast.Attribute):
                    self.assertIn(node.func.attr, METHODS, (path.name, node.lineno))
