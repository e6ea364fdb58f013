"""The form of the package: the subset of the language in which it is written."""

import ast
import builtins
import re
import unittest
from pathlib import Path

PACKAGE = Path(__file__).resolve().parent.parent / "wholefaces"
FILES = sorted(PACKAGE.glob("*.py"))
BUILTINS = ("len range enumerate zip min max sum abs sorted reversed int str bool list tuple dict set isinstance ord repr any "
            "all divmod ValueError").split()
METHODS = ("append clear copy count endswith extend find get index insert isalnum isalpha isdigit islower isspace isupper items "
           "join keys ljust lower lstrip partition pop remove replace reverse rfind rjust rpartition rsplit rstrip setdefault "
           "split splitlines startswith strip update upper values zfill bit_length").split()
STATEMENTS = (ast.Assign, ast.If, ast.While, ast.For, ast.Return, ast.Break, ast.Continue, ast.Pass, ast.Raise, ast.Expr,
              ast.FunctionDef, ast.ClassDef, ast.ImportFrom, ast.Try)
BARRED = ("type typing typing_extensions enum Enum IntEnum StrEnum Flag IntFlag Generic Protocol ABC ABCMeta namedtuple "
          "NamedTuple TypedDict TYPE_CHECKING abstractmethod dataclass overload contextmanager").split()
SPECIAL = ["__init__", "__eq__", "__len__", "__contains__", "__and__", "__or__"]
NEVER = "register mro elements open input law version_info with_traceback add_note".split()
NEVER_VARIABLES = ("attrgetter breakpoint builtins compile copyright credits delattr dir eval exec exit gc getattr globals "
                   "hasattr help id importlib license locals methodcaller os quit setattr super type vars sys").split()


def tree_of(path):
    """The tree of a file."""
    return ast.parse(path.read_text())


def defined_in(tree):
    """The names that a file defines itself at its module level."""
    names = [node.name for node in tree.body if isinstance(node, (ast.FunctionDef, ast.ClassDef))]
    return names + [node.targets[0].id for node in tree.body if isinstance(node, ast.Assign)]


def imported_in(tree):
    """The pairs (file, name) that a file imports."""
    return [(node.module, name.name) for node in tree.body if isinstance(node, ast.ImportFrom) for name in node.names]


def bound_in(node):
    """The names of parameters and local variables in a function."""
    names = [arg.arg for inner in ast.walk(node) for arg in (all_args(inner) if hasattr(inner, "args") else [])]
    names += [inner.name for inner in ast.walk(node) if isinstance(inner, ast.ExceptHandler) and inner.name]
    return names + [inner.id for inner in ast.walk(node) if isinstance(inner, ast.Name) and isinstance(inner.ctx, ast.Store)]


def all_args(node):
    """All parameters of a function or lambda."""
    if not isinstance(node, (ast.FunctionDef, ast.Lambda)):
        return []
    args = node.args
    return args.args + args.kwonlyargs + [arg for arg in (args.vararg, args.kwarg) if arg is not None]


def classes_in(tree):
    """The classes of a file."""
    return [node for node in tree.body if isinstance(node, ast.ClassDef)]


def methods_in(node):
    """The methods of a class."""
    return [method for method in node.body if isinstance(method, ast.FunctionDef)]


def stored_in(node):
    """The names of the attributes that are assigned in a class."""
    return {inner.attr for inner in ast.walk(node) if isinstance(inner, ast.Attribute) and isinstance(inner.ctx, ast.Store)}


ALL_CLASSES = [node for path in FILES for node in classes_in(tree_of(path))]
OWN_ERRORS = [node.name for node in classes_in(tree_of(PACKAGE / "errors.py"))]
OWN_METHODS = [method.name for node in ALL_CLASSES for method in methods_in(node) if not method.name.startswith("__")]


class FormTest(unittest.TestCase):

    def each(self):
        """Each file, with its tree, as a test of its own."""
        for path in FILES:
            with self.subTest(file=path.name):
                yield path, tree_of(path)

    def test_files(self):
        self.assertGreater(len(FILES), 30)
        self.assertLessEqual(len(FILES), 100)
        for path in PACKAGE.iterdir():
            self.assertTrue(path.name == "__pycache__" or re.fullmatch("[a-z_0-9]+[.]py", path.name), path.name)

    def test_characters_and_sizes(self):
        for path, tree in self.each():
            lines = path.read_text().split("\n")
            self.assertLessEqual(len(lines), 400)
            for line in lines:
                self.assertLessEqual(len(line), 120)
                self.assertRegex(line, "^[ -~]*$")
                self.assertLessEqual(line.count("lambda"), 1)
            for node in ast.walk(tree):
                if isinstance(node, ast.FunctionDef):
                    self.assertLessEqual(node.end_lineno - node.lineno + 1, 40, node.name)

    def test_module_level(self):
        for path, tree in self.each():
            self.assertIsInstance(tree.body[0].value, ast.Constant)
            for node in tree.body[1:]:
                self.assertIsInstance(node, (ast.ImportFrom, ast.FunctionDef, ast.ClassDef, ast.Assign))
            names = defined_in(tree) + [name for _, name in imported_in(tree)]
            self.assertEqual(len(names), len(set(names)))

    def test_imports(self):
        known = {f"wholefaces.{path.stem}": defined_in(tree_of(path)) for path in FILES}
        known["math"] = ["gcd"]
        for path, tree in self.each():
            used = [node.id for node in ast.walk(tree) if isinstance(node, ast.Name)]
            for module, name in imported_in(tree):
                self.assertIn(name, known[module])
                self.assertIn(name, used)
            for node in ast.walk(tree):
                self.assertNotIsInstance(node, ast.Import)
                if isinstance(node, ast.ImportFrom):
                    self.assertIn(node, tree.body)
                    self.assertTrue(all(name.asname is None for name in node.names))

    def test_no_two_files_import_from_each_other(self):
        edges = {path.stem: {module[11:] for module, _ in imported_in(tree_of(path)) if module != "math"} for path in FILES}
        done = set()
        while len(done) < len(edges):
            ready = [name for name, needs in edges.items() if name not in done and needs <= done]
            self.assertTrue(ready, set(edges) - done)
            done.update(ready)

    def test_nodes(self):
        for path, tree in self.each():
            parents = {child: node for node in ast.walk(tree) for child in ast.iter_child_nodes(node)}
            for node in ast.walk(tree):
                if isinstance(node, ast.stmt):
                    self.assertIsInstance(node, STATEMENTS)
                self.assertNotIsInstance(node, (ast.GeneratorExp, ast.Set, ast.SetComp, ast.Div, ast.MatMult, ast.Pow, ast.Await,
                                                ast.Yield, ast.YieldFrom, ast.NamedExpr, ast.AnnAssign))
                if isinstance(node, (ast.FunctionDef, ast.ClassDef)):
                    self.assertEqual(node.decorator_list, [])
                    self.assertIsNone(getattr(node, "returns", None))
                    self.assertIn(parents[node], [tree] + [c for c in tree.body if isinstance(c, ast.ClassDef)])
                if isinstance(node, ast.arg):
                    self.assertIsNone(node.annotation)
                if isinstance(node, ast.Compare) and any(isinstance(op, (ast.Is, ast.IsNot)) for op in node.ops):
                    self.assertIsInstance(node.comparators[0], ast.Constant)
                if isinstance(node, ast.Constant):
                    self.assertNotIsInstance(node.value, (float, complex, bytes))
                if isinstance(node, ast.Call):
                    self.check_call(node, parents[node])
                if isinstance(node, ast.Raise):
                    self.assertIsInstance(node.exc, ast.Call)
                if isinstance(node, ast.Try):
                    self.assertEqual(node.orelse + node.finalbody, [])
                    self.assertTrue(all(handler.type.id in OWN_ERRORS for handler in node.handlers))

    def check_call(self, node, parent):
        """Calls: builtins without keywords, methods of the list or own ones, sets on the spot."""
        if isinstance(node.func, ast.Attribute):
            self.assertIn(node.func.attr, METHODS + OWN_METHODS)
            self.assertFalse(node.func.attr.startswith("_") and node.func.value.id != "self")
        if isinstance(node.func, ast.Name) and hasattr(builtins, node.func.id):
            self.assertEqual(node.keywords, [])
        if isinstance(node.func, ast.Name) and node.func.id == "set":
            self.assertTrue(isinstance(parent, ast.Call) and parent.func.id in ("sorted", "len"))

    def test_classes(self):
        stored = set()
        for node in ALL_CLASSES:
            stored |= stored_in(node)
            names = [method.name for method in methods_in(node)]
            self.assertEqual(len(names), len(set(names)))
            for name in names:
                self.assertTrue(not name.startswith("__") or name in SPECIAL, name)
            for method in methods_in(node):
                self.assertEqual(method.args.args[0].arg, "self")
                self.check_special(method)
        self.assertFalse(stored & set(OWN_METHODS))
        self.assertFalse((stored | set(OWN_METHODS)) & set(METHODS + NEVER))
        for path, tree in self.each():
            for inner in ast.walk(tree):
                if isinstance(inner, ast.Attribute) and isinstance(inner.ctx, ast.Load):
                    self.assertIn(inner.attr, METHODS + OWN_METHODS + sorted(stored))
                if isinstance(inner, ast.Attribute) and inner.attr.startswith("_"):
                    self.assertIn(inner.value.id, ("self", "other"))

    def check_special(self, method):
        """Operators and the like change nothing, and end with a return of the right shape."""
        if not method.name.startswith("__") or method.name == "__init__":
            return
        self.assertFalse(stored_in(method))
        self.assertEqual([arg.arg for arg in method.args.args][1:], {"__len__": [], "__contains__": ["thing"]}.get(method.name, ["other"]))
        last = method.body[-1]
        self.assertIsInstance(last, ast.Return)
        if method.name == "__len__":
            self.assertEqual(last.value.func.id, "len")
        if method.name == "__eq__":
            self.assertRegex(ast.unparse(last), "^return isinstance[(]other, [A-Za-z]+[)]( and [(]?self[.][a-z_]+ == other[.][a-z_]+[)]?)+$")

    def test_names(self):
        for path, tree in self.each():
            own = [name for _, name in imported_in(tree)] + [c.name for c in tree.body if isinstance(c, ast.ClassDef)]
            module = defined_in(tree) + [name for _, name in imported_in(tree)]
            for node in tree.body:
                bound = bound_in(node)
                for name in bound + (defined_in(ast.Module([node], [])) if not isinstance(node, ast.ImportFrom) else []):
                    self.assertFalse(hasattr(builtins, name), name)
                    self.assertNotIn(name, NEVER + NEVER_VARIABLES)
                if isinstance(node, (ast.FunctionDef, ast.ClassDef)):
                    self.assertFalse(set(bound) & set(own), node.name)
                for inner in ast.walk(node):
                    if isinstance(inner, ast.Name) and isinstance(inner.ctx, ast.Load):
                        self.assertIn(inner.id, bound + module + BUILTINS)
                    if isinstance(inner, ast.Attribute):
                        self.assertNotIn(inner.attr, NEVER)

    def test_words(self):
        for path, tree in self.each():
            docs = [ast.get_docstring(node, clean=False) for node in ast.walk(tree)
                    if isinstance(node, (ast.Module, ast.FunctionDef, ast.ClassDef))]
            for node in ast.walk(tree):
                if isinstance(node, ast.Constant) and isinstance(node.value, str):
                    self.assertNotIn("%", node.value)
                    if node.value not in docs:
                        self.assertFalse(set(re.findall("[A-Za-z_]+", node.value)) & set(BARRED))
                if isinstance(node, ast.Name):
                    self.assertNotIn(node.id, BARRED)

    def test_each_function_is_told_of(self):
        for path, tree in self.each():
            for node in ast.walk(tree):
                if isinstance(node, (ast.FunctionDef, ast.ClassDef)) and node.name != "__init__":
                    self.assertRegex(node.name.strip("_"), "^[A-Za-z][A-Za-z0-9_]*$")
                    self.assertIsNotNone(ast.get_docstring(node), node.name)


if __name__ == "__main__":
    unittest.main()
