"""Holds the package's files against the small part of Python that they keep to.

Not all of that can be seen from the outside of a file; what is looked at here
are the rules that are broken most easily, each under its number.
"""

import ast
import builtins
import pathlib
import re
import unittest

FOLDER = pathlib.Path(__file__).resolve().parent.parent / "screenlines"
PARTS = ("__init__", "errors", "screens", "orders", "least", "bars", "columns", "tables", "boards", "texts", "windows",
         "spans", "pads")
STATEMENTS = (
    ast.Assign, ast.AugAssign, ast.If, ast.While, ast.For, ast.Return, ast.Break, ast.Continue, ast.Pass, ast.Raise,
    ast.Try, ast.Expr, ast.FunctionDef, ast.ClassDef, ast.ImportFrom,
)
EXPRESSIONS_OUT = (
    ast.Set, ast.SetComp, ast.DictComp, ast.GeneratorExp, ast.NamedExpr, ast.Starred, ast.Await, ast.Yield,
    ast.YieldFrom, ast.Div, ast.MatMult,
)
OWN_NAMES = set(
    "len range enumerate zip min max sum abs sorted reversed int str bool list tuple dict set frozenset isinstance ord "
    "repr any all divmod Exception ValueError TypeError KeyError IndexError LookupError ZeroDivisionError "
    "ArithmeticError OverflowError RuntimeError NotImplementedError AttributeError StopIteration".split())
METHODS = set(
    "append clear copy count endswith extend find get index insert isalnum isalpha isdigit islower isspace isupper "
    "items join keys ljust lower lstrip partition pop remove replace reverse rfind rjust rpartition rsplit rstrip "
    "setdefault split splitlines startswith strip update upper values zfill bit_length".split())
WORDS_OUT = re.compile(
    r"\b(type|typing|typing_extensions|enum|Enum|IntEnum|StrEnum|Flag|IntFlag|Generic|Protocol|ABC|ABCMeta|namedtuple|"
    r"NamedTuple|TypedDict|TYPE_CHECKING|abstractmethod)\b|dataclass|overload|contextmanager")
DOUBLE_UNDERSCORES = ("__init__", "__eq__", "__repr__", "__str__", "__len__")
PYTHONS_OWN = {name for kind in (str, int, list, dict, set, bytes, tuple) for name in dir(kind)}
VALUES_ALLOWED = set("count index title find get join lower upper split strip copy add".split())
KEYWORDS = {"sorted": ("key", "reverse"), "min": ("key", "default"), "max": ("key", "default"), "sum": ("start",),
            "enumerate": ("start",), "zip": ("strict",)}
NAMES_OUT = set("register mro elements open input version_info with_traceback add_note".split())


def is_docstring(node, tree):
    return bool(tree.body) and node is tree.body[0] and isinstance(node.value, ast.Constant)


def bound_names(tree):
    for node in ast.walk(tree):
        if isinstance(node, ast.Name) and isinstance(node.ctx, ast.Store):
            yield node.id
        elif isinstance(node, ast.arg):
            yield node.arg


class TestLanguage(unittest.TestCase):
    def setUp(self):
        self.sources = {path.name: path.read_bytes() for path in sorted(FOLDER.glob("*.py"))}
        self.trees = {name: ast.parse(source) for name, source in self.sources.items()}

    def each_node(self):
        for name, tree in self.trees.items():
            for node in ast.walk(tree):
                yield node, tree, f"{name}:{getattr(node, 'lineno', 0)}"

    def test_files(self):
        found = [path.name for path in FOLDER.iterdir() if path.name != "__pycache__"]
        for name in found:
            self.assertRegex(name, r"^[a-z][a-z0-9_]*\.py$|^__init__\.py$|^__main__\.py$", "L1, L14")
        for part in PARTS:
            self.assertIn(part + ".py", found)

    def test_signs_and_sizes(self):
        for name, source in self.sources.items():
            self.assertTrue(all(code == 10 or 32 <= code <= 126 for code in source), f"L14 {name}")
            rows = source.decode("ascii").split("\n")
            self.assertLessEqual(len(rows), 400, f"L10 {name}")
            for number, row in enumerate(rows, start=1):
                self.assertLessEqual(len(row), 120, f"L10 {name}:{number}")
                self.assertIsNone(WORDS_OUT.search(row), f"L17 {name}:{number}")
        for node, tree, spot in self.each_node():
            if isinstance(node, ast.FunctionDef):
                self.assertLessEqual(node.end_lineno - node.lineno + 1, 40, f"L10 {spot}")

    def test_imports(self):
        for node, tree, spot in self.each_node():
            if isinstance(node, ast.ImportFrom):
                self.assertIn(node, tree.body, f"L2 {spot}")
                self.assertEqual(node.level, 0, f"L2 {spot}")
                self.assertRegex(node.module, r"^screenlines\.[a-z_]+$", f"L2 {spot}")
                source = self.trees[node.module.split(".")[1] + ".py"]
                defined = {getattr(part, "name", None) for part in source.body} | set(bound_names(source))
                for alias in node.names:
                    self.assertIn(alias.name, defined, f"L16 {spot}")
                    self.assertIsNone(alias.asname, f"L16 {spot}")

    def test_no_two_files_draw_from_one_another(self):
        drawn = {name: {node.module.split(".")[1] + ".py" for node in tree.body if isinstance(node, ast.ImportFrom)}
                 for name, tree in self.trees.items()}
        while drawn:
            free = [name for name in drawn if not drawn[name] & set(drawn)]
            self.assertTrue(free, f"L16 {sorted(drawn)}")
            for name in free:
                drawn.pop(name)

    def test_statements(self):
        for node, tree, spot in self.each_node():
            if isinstance(node, ast.stmt):
                self.assertIsInstance(node, STATEMENTS, f"L6 {spot}")
            if isinstance(node, ast.Assign):
                self.assertEqual(len(node.targets), 1, f"L6 {spot}")
                self.assertNotIsInstance(node.targets[0], (ast.Tuple, ast.List), f"L6 {spot}")
            if isinstance(node, (ast.For, ast.While)):
                self.assertEqual(node.orelse, [], f"L6 {spot}")
            if isinstance(node, ast.Expr) and not is_docstring(node, tree):
                self.assertIsInstance(node.value, ast.Call, f"L6 {spot}")
            if isinstance(node, (ast.FunctionDef, ast.ClassDef)):
                self.assertEqual(node.decorator_list, [], f"L4, L5 {spot}")

    def test_expressions(self):
        for node, tree, spot in self.each_node():
            self.assertNotIsInstance(node, EXPRESSIONS_OUT, f"L7 {spot}")
            if isinstance(node, ast.Constant):
                self.assertIsInstance(node.value, (int, str, type(None)), f"L7 {spot}")
                self.assertNotIn("%", str(node.value), f"L27 {spot}")
            if isinstance(node, ast.ListComp):
                self.assertEqual(len(node.generators), 1, f"L7 {spot}")
                self.assertLessEqual(len(node.generators[0].ifs), 1, f"L7 {spot}")
            if isinstance(node, ast.Compare) and any(isinstance(sign, (ast.Is, ast.IsNot)) for sign in node.ops):
                self.assertIsInstance(node.comparators[0], ast.Constant, f"L20 {spot}")

    def test_names(self):
        for node, tree, spot in self.each_node():
            if isinstance(node, ast.Name):
                self.assertRegex(node.id, r"^[A-Za-z][A-Za-z0-9_]*$", f"L12 {spot}")
                self.assertNotIn(node.id, NAMES_OUT, f"L17 {spot}")
                if hasattr(builtins, node.id):
                    self.assertIn(node.id, OWN_NAMES, f"L8 {spot}")
        for name, tree in self.trees.items():
            taken = {alias.name for node in tree.body if isinstance(node, ast.ImportFrom) for alias in node.names}
            taken |= {node.name for node in tree.body if isinstance(node, ast.ClassDef)}
            for bound in bound_names(tree):
                self.assertFalse(hasattr(builtins, bound), f"L15 {name}: {bound}")
                self.assertNotIn(bound, taken, f"L15 {name}: {bound}")

    def test_each_name_once_at_the_top(self):
        for name, tree in self.trees.items():
            bound = [node.name for node in tree.body if isinstance(node, (ast.FunctionDef, ast.ClassDef))]
            bound += [node.targets[0].id for node in tree.body if isinstance(node, ast.Assign)]
            bound += [alias.name for node in tree.body if isinstance(node, ast.ImportFrom) for alias in node.names]
            self.assertEqual(len(bound), len(set(bound)), f"L15 {name}")

    def test_the_top_of_a_module(self):
        for name, tree in self.trees.items():
            for node in tree.body:
                if isinstance(node, ast.Assign):
                    for part in ast.walk(node.value):
                        self.assertIsInstance(part, (ast.Constant, ast.Tuple, ast.List, ast.Dict, ast.Load), f"L3 {name}")
                elif isinstance(node, ast.Expr):
                    self.assertTrue(is_docstring(node, tree), f"L3 {name}:{node.lineno}")
                else:
                    self.assertIsInstance(node, (ast.ImportFrom, ast.FunctionDef, ast.ClassDef), f"L3 {name}:{node.lineno}")

    def test_functions(self):
        for node, tree, spot in self.each_node():
            if isinstance(node, (ast.FunctionDef, ast.Lambda)):
                self.assertIsNone(node.args.vararg, f"L4 {spot}")
                self.assertIsNone(node.args.kwarg, f"L4 {spot}")
                self.assertEqual(node.args.kwonlyargs + node.args.posonlyargs, [], f"L4 {spot}")
            if isinstance(node, ast.FormattedValue):
                self.assertIsInstance(node.value, ast.Name, f"L7 {spot}")
                self.assertIsNone(node.format_spec, f"L7 {spot}")
            if isinstance(node, ast.Call) and node.keywords and isinstance(node.func, ast.Name):
                if hasattr(builtins, node.func.id):
                    for keyword in node.keywords:
                        self.assertIn(keyword.arg, KEYWORDS.get(node.func.id, ()), f"L22 {spot}")

    def test_classes(self):
        methods, values = set(), set()
        for node, tree, spot in self.each_node():
            if isinstance(node, ast.ClassDef):
                self.assertIn(node, tree.body, f"L15 {spot}")
                self.assertLessEqual(len(node.bases), 1, f"L5 {spot}")
                own = [part.name for part in node.body if isinstance(part, ast.FunctionDef)]
                self.assertEqual(len(own), len(set(own)), f"L18 {spot}")
                methods |= set(own)
                for part in node.body:
                    self.assertIsInstance(part, (ast.FunctionDef, ast.Pass), f"L5 {spot}")
            if isinstance(node, ast.Attribute) and isinstance(node.ctx, ast.Store):
                self.assertIsInstance(node.value, ast.Name, f"L18 {spot}")
                values.add(node.attr)
        self.assertEqual(methods & values, set(), "L18")
        for name in methods:
            self.assertTrue(name in DOUBLE_UNDERSCORES or not name.startswith("_"), f"L5, L12 {name}")
            free = name not in PYTHONS_OWN or name in DOUBLE_UNDERSCORES
            self.assertTrue(free or name in METHODS | {"add", "discard"}, f"L26 {name}")
        for name in values:
            self.assertTrue(name not in PYTHONS_OWN or name in VALUES_ALLOWED, f"L26 {name}")

    def test_methods(self):
        own = {node.name for tree in self.trees.values() for part in tree.body if isinstance(part, ast.ClassDef)
               for node in part.body if isinstance(node, ast.FunctionDef)}
        for node, tree, spot in self.each_node():
            if isinstance(node, ast.Attribute):
                self.assertNotIn(node.attr, NAMES_OUT, f"L17 {spot}")
            if isinstance(node, ast.Call) and isinstance(node.func, ast.Attribute):
                self.assertIn(node.func.attr, METHODS | own, f"L25 {spot}")


if __name__ == "__main__":
    unittest.main()
