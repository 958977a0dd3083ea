"""The files of the package keep to the plain part of Python that they are written in.

Not every rule of LANGUAGE.md is checked here, only those that are easily broken unawares.
"""

import ast
import re
import unittest
from pathlib import Path

PACKAGE = Path(__file__).resolve().parent.parent / "wishmart"
FILES = sorted(path for path in PACKAGE.rglob("*") if path.is_file() and path.parent.name != "__pycache__")

STATEMENTS = (ast.FunctionDef, ast.ClassDef, ast.ImportFrom, ast.Assign, ast.AugAssign, ast.AnnAssign, ast.If,
              ast.While, ast.For, ast.Return, ast.Break, ast.Continue, ast.Pass, ast.Raise, ast.Assert, ast.Delete,
              ast.Try, ast.Expr)
BARRED_NODES = (ast.GeneratorExp, ast.NamedExpr, ast.Yield, ast.YieldFrom, ast.Await, ast.Div, ast.MatMult)
BUILTINS = set("""len range enumerate zip min max sum abs sorted reversed int str bool bytes list tuple dict set
    isinstance ord repr any all divmod Exception ValueError KeyError IndexError LookupError ZeroDivisionError
    ArithmeticError OverflowError RuntimeError NotImplementedError TypeError""".split())
BARRED_WORDS = re.compile(r"\b(type|typing|typing_extensions|enum|Enum|IntEnum|StrEnum|Flag|IntFlag|Generic|Protocol|"
                          r"ABC|ABCMeta|namedtuple|NamedTuple|TypedDict|TYPE_CHECKING|abstractmethod)\b|"
                          r"dataclass|overload|contextmanager")
BARRED_NAMES = set("""register mro elements open input eval exec getattr setattr hasattr vars dir id type super
    help exit quit globals locals compile chr format os sys gc""".split())
ITERATED_AT_ONCE = {"zip", "enumerate", "reversed", "range", "items", "keys", "values"}
ITERATE = {"list", "tuple", "dict", "sorted", "sum", "any", "all", "enumerate", "zip", "min", "max", "join"}
METHODS = set("""append clear copy count endswith extend find get index insert isalnum isalpha isdigit islower isspace
    isupper items join keys ljust lower lstrip partition pop remove replace reverse rfind rjust rpartition rsplit rstrip
    setdefault split splitlines startswith strip update upper values zfill bit_length isascii isdecimal""".split())
OWN_DOUBLES = {"__init__", "__eq__", "__repr__", "__str__", "__len__"}


def bound_names(tree):
    """All names that a file gives a meaning."""
    for node in ast.walk(tree):
        if isinstance(node, (ast.FunctionDef, ast.ClassDef)):
            yield node.name
        elif isinstance(node, ast.arg):
            yield node.arg
        elif isinstance(node, ast.Name) and isinstance(node.ctx, ast.Store):
            yield node.id
        elif isinstance(node, ast.alias):
            yield node.asname or node.name


def called(node):
    """The last word of what a node calls, or None."""
    if not isinstance(node, ast.Call):
        return None
    return node.func.attr if isinstance(node.func, ast.Attribute) else getattr(node.func, "id", None)


def own_methods(tree):
    return {each.name for node in ast.walk(tree) if isinstance(node, ast.ClassDef)
            for each in node.body if isinstance(each, ast.FunctionDef)}


def attributes(tree, context):
    """The attributes that are set (ast.Store) or read (ast.Load), but for the methods that are called."""
    methods = {id(node.func) for node in ast.walk(tree) if isinstance(node, ast.Call)}
    return {node.attr for node in ast.walk(tree) if isinstance(node, ast.Attribute)
            and isinstance(node.ctx, context) and id(node) not in methods}


def parts_with_parents(tree):
    for parent in ast.walk(tree):
        for part in ast.iter_child_nodes(parent):
            yield parent, part


def imported_files(tree):
    return {node.module.split(".")[-1] for node in ast.walk(tree) if isinstance(node, ast.ImportFrom)}


class LanguageTest(unittest.TestCase):
    def each_tree(self):
        for path in FILES:
            with self.subTest(file=path.name):
                yield path, ast.parse(path.read_text("ascii"))

    def test_files(self):
        self.assertIn(PACKAGE / "__init__.py", FILES)
        for path in FILES:
            self.assertRegex(path.name, r"\A[a-z0-9_]+\.py\Z")

    def test_characters_lines_and_words(self):
        for path in FILES:
            lines = path.read_text("ascii").split("\n")
            self.assertLessEqual(len(lines), 401, path.name)
            for at, line in enumerate(lines, 1):
                self.assertRegex(line, r"\A[ -~]{0,120}\Z", (path.name, at))
                self.assertIsNone(BARRED_WORDS.search(line), (path.name, at))

    def test_statements_and_expressions(self):
        for path, tree in self.each_tree():
            for node in ast.walk(tree):
                where = (path.name, getattr(node, "lineno", 0))
                self.assertNotIsInstance(node, BARRED_NODES, where)
                if isinstance(node, ast.stmt):
                    self.assertIsInstance(node, STATEMENTS, where)
                if isinstance(node, (ast.For, ast.While)):
                    self.assertEqual(node.orelse, [], where)
                if isinstance(node, ast.Constant):
                    self.assertNotIsInstance(node.value, (float, complex), where)
                    self.assertNotIn("%", str(node.value), where)

    def test_functions_and_classes(self):
        for path, tree in self.each_tree():
            for node in ast.walk(tree):
                if isinstance(node, ast.FunctionDef):
                    self.assertLessEqual(node.end_lineno - node.lineno, 39, (path.name, node.name))
                    self.assertEqual(node.decorator_list, [], (path.name, node.name))
                    self.assertIsNone(node.args.vararg, (path.name, node.name))
                    self.assertIsNone(node.args.kwarg, (path.name, node.name))
                    self.assertEqual(node.args.posonlyargs, [], (path.name, node.name))
                if isinstance(node, ast.ClassDef):
                    self.assertLessEqual(len(node.bases), 1, (path.name, node.name))
                    self.assertEqual(node.decorator_list, [], (path.name, node.name))

    def test_methods_and_attributes(self):
        trees = [tree for path, tree in self.each_tree()]
        own = set().union(*[own_methods(tree) for tree in trees])
        held = set().union(*[attributes(tree, ast.Store) for tree in trees])
        read = set().union(*[attributes(tree, ast.Load) for tree in trees])
        self.assertEqual(own & held, set())
        self.assertEqual(read - held, set())
        self.assertEqual({name for name in own if name.startswith("__")} - OWN_DOUBLES, set())
        self.assertEqual(held & METHODS, set())
        for path, tree in self.each_tree():
            methods = {called(node) for node in ast.walk(tree)
                       if isinstance(node, ast.Call) and isinstance(node.func, ast.Attribute)}
            self.assertEqual(methods - METHODS - own, set(), path.name)

    def test_classes_hold_methods_only(self):
        for path, tree in self.each_tree():
            for node in ast.walk(tree):
                if isinstance(node, ast.ClassDef):
                    for each in node.body:
                        docstring = isinstance(each, ast.Expr) and isinstance(each.value, ast.Constant)
                        self.assertTrue(docstring or isinstance(each, ast.FunctionDef), (path.name, each.lineno))

    def test_only_plain_values_stand_at_module_level(self):
        for path, tree in self.each_tree():
            for node in tree.body:
                where = (path.name, node.lineno)
                self.assertIsInstance(node, (ast.Expr, ast.ImportFrom, ast.FunctionDef, ast.ClassDef, ast.Assign), where)
                if isinstance(node, ast.Assign):
                    for each in ast.walk(node.value):
                        self.assertNotIsInstance(each, (ast.Call, ast.ListComp, ast.DictComp, ast.Set), where)

    def test_each_name_is_bound_once_at_module_level(self):
        for path, tree in self.each_tree():
            names = [name for node in tree.body if not isinstance(node, (ast.FunctionDef, ast.ClassDef))
                     for name in bound_names(node)]
            names += [node.name for node in tree.body if isinstance(node, (ast.FunctionDef, ast.ClassDef))]
            self.assertEqual(len(names), len(set(names)), path.name)

    def test_imports(self):
        for path, tree in self.each_tree():
            for node in ast.walk(tree):
                if isinstance(node, ast.ImportFrom):
                    self.assertRegex(node.module, r"\Awishmart\.[a-z_]+\Z", path.name)
                    self.assertEqual(node.level, 0, path.name)
                    self.assertNotIn("*", [each.name for each in node.names], path.name)

    def test_no_files_import_each_other(self):
        files = {path.stem: imported_files(tree) for path, tree in self.each_tree()}
        reached = {name: set(behind) for name, behind in files.items()}
        for _ in files:
            for name in files:
                reached[name] = reached[name].union(*[reached[other] for other in reached[name]])
        self.assertEqual([name for name in files if name in reached[name]], [])

    def test_is_stands_with_none_and_truths_only(self):
        for path, tree in self.each_tree():
            for node in ast.walk(tree):
                if isinstance(node, ast.Compare):
                    for sign, right in zip(node.ops, node.comparators):
                        if isinstance(sign, (ast.Is, ast.IsNot)):
                            self.assertIsInstance(right, ast.Constant, (path.name, node.lineno))
                            self.assertIn(repr(right.value), ("None", "True", "False"), (path.name, node.lineno))

    def test_what_is_iterated_at_once_is_not_stored(self):
        for path, tree in self.each_tree():
            for parent, part in parts_with_parents(tree):
                if called(part) in ITERATED_AT_ONCE:
                    fits = isinstance(parent, (ast.For, ast.comprehension)) or called(parent) in ITERATE
                    self.assertTrue(fits, (path.name, part.lineno))

    def test_sets_stand_only_where_they_are_used_up(self):
        for path, tree in self.each_tree():
            for parent, part in parts_with_parents(tree):
                if isinstance(part, (ast.Set, ast.SetComp)) or called(part) in ("set", "frozenset"):
                    fits = isinstance(parent, (ast.Compare, ast.BinOp)) or called(parent) in ("sorted", "len")
                    self.assertTrue(fits, (path.name, part.lineno))

    def test_no_name_in_a_function_is_that_of_an_import(self):
        for path, tree in self.each_tree():
            imports = {name.name for node in tree.body if isinstance(node, ast.ImportFrom) for name in node.names}
            for node in tree.body:
                if isinstance(node, (ast.FunctionDef, ast.ClassDef)):
                    self.assertEqual(set(bound_names(node)) & imports, set(), (path.name, node.name))

    def test_names(self):
        for path, tree in self.each_tree():
            bound = set(bound_names(tree))
            self.assertEqual(bound & (BARRED_NAMES | BUILTINS), set(), path.name)
            self.assertEqual({name for name in bound if name.startswith("_")} - OWN_DOUBLES, set(), path.name)
            read = {node.id for node in ast.walk(tree) if isinstance(node, ast.Name) and isinstance(node.ctx, ast.Load)}
            self.assertEqual(read - bound - BUILTINS, set(), path.name)


if __name__ == "__main__":
    unittest.main()
