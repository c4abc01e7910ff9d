"""The package's files keep to the small part of Python that the program is written in.

This looks for what can be seen file by file; it is no proof that every rule is kept.
"""

import ast
import builtins
import pathlib
import re
import unittest

PACKAGE = pathlib.Path(__file__).resolve().parent.parent / "dimhouse"

NODES = """Module Expr Constant Name Load Store Assign AugAssign Attribute Subscript Slice Call keyword
ImportFrom alias FunctionDef ClassDef arguments arg Return If IfExp While For Break Continue Pass Raise Try
ExceptHandler Lambda List Tuple Dict Set ListComp comprehension JoinedStr FormattedValue BoolOp And Or UnaryOp Not
USub Invert BinOp Add Sub Mult FloorDiv Mod Pow BitAnd BitOr BitXor LShift RShift Compare Eq NotEq Lt LtE Gt GtE
Is IsNot In NotIn""".split()
OWN_NAMES = """len range enumerate zip min max sum abs sorted reversed int str bool list tuple dict set frozenset
isinstance ord repr any all divmod Exception ValueError TypeError KeyError IndexError LookupError ZeroDivisionError
ArithmeticError OverflowError RuntimeError NotImplementedError AttributeError StopIteration""".split()
METHODS = """append clear copy count endswith extend find get index insert isalnum isalpha isdigit islower isspace
isupper items join keys ljust lower lstrip partition pop remove replace reverse rfind rjust rpartition rsplit rstrip
setdefault split splitlines startswith strip update upper values zfill bit_length __init__""".split()
NOWHERE = re.compile(r"\b(type|typing|typing_extensions|enum|Enum|IntEnum|StrEnum|Flag|IntFlag|Generic|Protocol|ABC|"
                     r"ABCMeta|namedtuple|NamedTuple|TypedDict|TYPE_CHECKING|abstractmethod)\b|"
                     r"dataclass|overload|contextmanager")


def files():
    """The package's files, without what Python itself leaves there."""
    return [path for path in sorted(PACKAGE.rglob("*")) if "__pycache__" not in path.parts]


def is_plain(node):
    """Whether a value at a file's top is written out."""
    if isinstance(node, (ast.Tuple, ast.List)):
        return all(is_plain(one) for one in node.elts)
    if isinstance(node, ast.Dict):
        return all(is_plain(one) for one in node.keys + node.values)
    return isinstance(node, (ast.Constant, ast.Name))


class Language(unittest.TestCase):
    def setUp(self):
        self.trees = {path.name: ast.parse(path.read_text("ascii")) for path in files()}
        self.nodes = [(name, node) for name, tree in self.trees.items() for node in ast.walk(tree)]

    def each(self, *kinds):
        return [(name, node) for name, node in self.nodes if isinstance(node, kinds)]

    def test_files(self):
        self.assertIn("__init__.py", self.trees)
        for path in files():
            self.assertRegex(path.name, r"\A([a-z][a-z0-9_]*|__init__)\.py\Z")
            self.assertTrue(path.stem == "__init__" or not hasattr(builtins, path.stem), path.name)

    def test_size_and_signs(self):
        for path in files():
            text = path.read_bytes().decode("ascii")
            self.assertRegex(text, r"\A[ -~\n]*\Z")
            self.assertIsNone(NOWHERE.search(text), path.name)
            self.assertLessEqual(text.count("\n"), 400)
            self.assertLessEqual(max(len(line) for line in text.split("\n")), 120)
        for name, node in self.each(ast.FunctionDef):
            self.assertLessEqual(node.end_lineno - node.lineno + 1, 40, (name, node.name))

    def test_nodes(self):
        for name, node in self.nodes:
            self.assertIn(node.__class__.__name__, NODES, (name, getattr(node, "lineno", None)))

    def test_tops(self):
        for name, tree in self.trees.items():
            bound = []
            for place, node in enumerate(tree.body):
                if isinstance(node, ast.Assign):
                    self.assertTrue(is_plain(node.value), (name, node.lineno))
                    bound.append(node.targets[0].id)
                elif isinstance(node, (ast.FunctionDef, ast.ClassDef)):
                    bound.append(node.name)
                elif isinstance(node, ast.ImportFrom):
                    self.assertTrue(node.module.startswith("dimhouse.") and node.level == 0, (name, node.lineno))
                    bound.extend(one.name for one in node.names)
                else:
                    self.assertTrue(place == 0 and isinstance(node.value, ast.Constant), (name, node.lineno))
            self.assertEqual(len(bound), len(set(bound)), name)

    def test_functions_and_classes(self):
        for name, node in self.each(ast.FunctionDef, ast.Lambda):
            told = node.args
            self.assertFalse(told.vararg or told.kwarg or told.kwonlyargs or told.posonlyargs, (name, node.lineno))
        for name, node in self.each(ast.FunctionDef, ast.ClassDef):
            self.assertFalse(node.decorator_list, (name, node.lineno))
        for name, node in self.each(ast.ClassDef):
            self.assertLessEqual(len(node.bases), 1)
            for one in node.body:
                self.assertIsInstance(one, (ast.FunctionDef, ast.Expr), (name, node.name))

    def test_statements(self):
        for name, node in self.each(ast.Assign):
            self.assertEqual(len(node.targets), 1, (name, node.lineno))
        for name, node in self.each(ast.For, ast.While):
            self.assertFalse(node.orelse, (name, node.lineno))
        for name, node in self.each(ast.Constant):
            self.assertIsInstance(node.value, (int, str, bool, tuple, type(None)), (name, node.lineno))
            self.assertFalse(isinstance(node.value, str) and "%" in node.value, (name, node.lineno))
        for name, node in self.each(ast.Compare):
            if any(isinstance(one, (ast.Is, ast.IsNot)) for one in node.ops):
                self.assertIsInstance(node.comparators[-1], ast.Constant, (name, node.lineno))

    def test_names(self):
        for name, node in self.each(ast.Name):
            allowed = node.id in OWN_NAMES and isinstance(node.ctx, ast.Load)
            self.assertTrue(allowed or not hasattr(builtins, node.id), (name, node.lineno, node.id))
            self.assertFalse(node.id.startswith("_"), (name, node.lineno, node.id))
        for name, node in self.each(ast.arg):
            self.assertFalse(hasattr(builtins, node.arg) or node.arg.startswith("_"), (name, node.lineno, node.arg))

    def test_locals_are_not_called_like_imports_or_classes(self):
        for name, tree in self.trees.items():
            taken = [one.name for node in tree.body if isinstance(node, ast.ImportFrom) for one in node.names]
            taken += [node.name for node in tree.body if isinstance(node, ast.ClassDef)]
            for node in ast.walk(tree):
                if isinstance(node, ast.arg):
                    self.assertNotIn(node.arg, taken, (name, node.lineno))
                elif isinstance(node, ast.Name) and isinstance(node.ctx, ast.Store):
                    self.assertNotIn(node.id, taken, (name, node.lineno))

    def test_no_two_files_draw_from_one_another(self):
        drawn = {name: [node.module.split(".")[1] + ".py" for node in tree.body if isinstance(node, ast.ImportFrom)]
                 for name, tree in self.trees.items()}
        left = dict(drawn)
        while left:
            free = [name for name, files_drawn in left.items() if not any(one in left for one in files_drawn)]
            self.assertTrue(free, left)
            left = {name: files_drawn for name, files_drawn in left.items() if name not in free}

    def test_sets_stand_within_sorted_or_len_or_beside_in(self):
        made = {id(node) for name, node in self.each(ast.Call) if isinstance(node.func, ast.Name) and node.func.id == "set"}
        for name, node in self.each(ast.Call):
            if isinstance(node.func, ast.Name) and node.func.id in ("sorted", "len") and not node.keywords:
                made -= {id(one) for one in ast.walk(node.args[0])}
        for name, node in self.each(ast.Compare):
            made -= {id(one) for one in [node.left] + node.comparators}
        self.assertFalse(made)

    def test_methods_and_values(self):
        methods = [one.name for name, node in self.each(ast.ClassDef) for one in node.body if hasattr(one, "name")]
        values = [node.attr for name, node in self.each(ast.Attribute) if isinstance(node.ctx, ast.Store)]
        for name, node in self.each(ast.Call):
            if isinstance(node.func, ast.Attribute):
                self.assertIn(node.func.attr, METHODS + methods, (name, node.lineno))
        self.assertFalse(set(methods) & set(values))


if __name__ == "__main__":
    unittest.main()
