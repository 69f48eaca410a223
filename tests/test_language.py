"""The package's files keep to the part of Python that the project allows (rules L1 to L28)."""

import ast
import builtins
import pathlib
import re
import unittest

PACKAGE = pathlib.Path(__file__).resolve().parent.parent / "mineroads"

OWN_NAMES = set("""len range enumerate zip min max sum abs sorted reversed int str bool list tuple dict set frozenset
    isinstance ord repr any all divmod Exception ValueError TypeError KeyError IndexError LookupError
    ZeroDivisionError ArithmeticError OverflowError RuntimeError NotImplementedError AttributeError
    StopIteration""".split())

OWN_METHODS = set("""append clear copy count endswith extend find get index insert isalnum isalpha isdigit islower
    isspace isupper items join keys ljust lower lstrip partition pop remove replace reverse rfind rjust rpartition
    rsplit rstrip setdefault split splitlines startswith strip update upper values zfill bit_length""".split())

NODES = tuple(getattr(ast, name) for name in """Module FunctionDef ClassDef Return Assign AugAssign For While If Raise
    Try ExceptHandler ImportFrom alias Expr Pass Break Continue BoolOp And Or BinOp Add Sub Mult FloorDiv Mod Pow
    LShift RShift BitOr BitXor BitAnd UnaryOp Invert Not UAdd USub Lambda IfExp Dict ListComp comprehension Compare Eq
    NotEq Lt LtE Gt GtE Is IsNot In NotIn Call keyword JoinedStr FormattedValue Constant Attribute Subscript Name List
    Tuple Slice Load Store arguments arg""".split())

WORDS_NOWHERE = re.compile(r"\b(type|typing|typing_extensions|enum|Enum|IntEnum|StrEnum|Flag|IntFlag|Generic|Protocol"
                           r"|ABC|ABCMeta|namedtuple|NamedTuple|TypedDict|TYPE_CHECKING|abstractmethod)\b"
                           r"|dataclass|overload|contextmanager")

NAMES_NOWHERE = set("""register mro elements open input version_info with_traceback add_note attrgetter breakpoint
    builtins compile copyright credits delattr dir eval exec exit gc getattr globals hasattr help id importlib license
    locals methodcaller os quit setattr super type vars sys format format_map""".split())

PYTHONS_NAMES = frozenset(dir(builtins))

METHODS_OF_CLASSES = ("__init__", "__eq__", "__repr__", "__str__", "__len__")


def files():
    return sorted(PACKAGE.rglob("*.py"))


def trees():
    return [(path, ast.parse(path.read_text("utf-8"))) for path in files()]


def bound_names(tree):
    """Every name that a file binds, with its line."""
    for node in ast.walk(tree):
        if isinstance(node, ast.Name) and isinstance(node.ctx, ast.Store):
            yield node.id, node.lineno
        elif isinstance(node, (ast.FunctionDef, ast.ClassDef)):
            yield node.name, node.lineno
        elif isinstance(node, ast.arg):
            yield node.arg, node.lineno
        elif isinstance(node, ast.Attribute) and isinstance(node.ctx, ast.Store):
            yield node.attr, node.lineno


def top_names(node):
    if isinstance(node, (ast.FunctionDef, ast.ClassDef)):
        return [node.name]
    if isinstance(node, ast.Assign):
        return [target.id for target in node.targets]
    if isinstance(node, ast.ImportFrom):
        return [name.asname or name.name for name in node.names]
    return []


class TestFiles(unittest.TestCase):
    def test_only_python_files(self):
        for path in PACKAGE.rglob("*"):
            if "__pycache__" not in path.parts:
                self.assertTrue(path.suffix == ".py" and re.fullmatch(r"[a-z][a-z0-9_]*|__init__", path.stem), path)
        self.assertTrue((PACKAGE / "__init__.py").exists())
        self.assertTrue((PACKAGE / "roads.py").exists())

    def test_signs_and_sizes(self):
        for path in files():
            text = path.read_bytes().decode("ascii")
            self.assertTrue(all(sign == "\n" or " " <= sign <= "~" for sign in text), path)
            rows = text.split("\n")
            self.assertLessEqual(len(rows), 400, path)
            self.assertLessEqual(max(len(row) for row in rows), 120, path)
            self.assertIsNone(WORDS_NOWHERE.search(text), path)

    def test_functions_of_forty_lines(self):
        for path, tree in trees():
            for node in ast.walk(tree):
                if isinstance(node, ast.FunctionDef):
                    self.assertLessEqual(node.end_lineno - node.lineno + 1, 40, (path, node.name))


class TestCode(unittest.TestCase):
    def test_statements_and_expressions(self):
        for path, tree in trees():
            for node in ast.walk(tree):
                where = (path, getattr(node, "lineno", 0), node)
                self.assertIsInstance(node, NODES, where)
                if isinstance(node, ast.Assign):
                    self.assertEqual(len(node.targets), 1, where)
                    self.assertNotIsInstance(node.targets[0], (ast.Tuple, ast.List), where)
                if isinstance(node, (ast.For, ast.While)):
                    self.assertEqual(node.orelse, [], where)
                if isinstance(node, ast.ListComp):
                    self.assertEqual(len(node.generators), 1, where)
                    self.assertLessEqual(len(node.generators[0].ifs), 1, where)
                if isinstance(node, ast.Constant):
                    self.assertIn(type(node.value), (int, str, bool, type(None)), where)
                if isinstance(node, ast.FunctionDef):
                    self.assertEqual((node.decorator_list, node.returns), ([], None), where)
                if isinstance(node, ast.arguments):
                    self.assertEqual((node.vararg, node.kwarg, node.kwonlyargs, node.posonlyargs),
                                     (None, None, [], []), where)

    def test_is_stands_beside_none_true_and_false(self):
        for path, tree in trees():
            for node in ast.walk(tree):
                if isinstance(node, ast.Compare) and isinstance(node.ops[0], (ast.Is, ast.IsNot)):
                    self.assertIsInstance(node.comparators[0], ast.Constant, (path, node.lineno))

    def test_names(self):
        for path, tree in trees():
            own = set(name for node in tree.body for name in top_names(node))
            imports = set(name for node in tree.body if isinstance(node, ast.ImportFrom) for name in top_names(node))
            for name, line in bound_names(tree):
                where = (path, line, name)
                if name not in METHODS_OF_CLASSES:
                    self.assertRegex(name, r"\A[A-Za-z][A-Za-z0-9_]*\Z", where)
                self.assertNotIn(name, NAMES_NOWHERE, where)
                self.assertNotIn(name, imports, where)
                self.assertNotIn(name, PYTHONS_NAMES, where)
            for node in ast.walk(tree):
                if isinstance(node, ast.Name) and isinstance(node.ctx, ast.Load) and node.id in PYTHONS_NAMES:
                    self.assertTrue(node.id in OWN_NAMES or node.id in own, (path, node.lineno, node.id))

    def test_attributes(self):
        values, methods = set(), set()
        for path, tree in trees():
            for node in ast.walk(tree):
                if isinstance(node, ast.ClassDef):
                    methods |= set(item.name for item in node.body if isinstance(item, ast.FunctionDef))
                if isinstance(node, ast.Attribute) and isinstance(node.ctx, ast.Store):
                    values.add(node.attr)
        self.assertEqual(values & methods, set())
        pythons = set(name for kind in (str, int, list, dict, set, bytes, tuple) for name in dir(kind))
        self.assertEqual((values | methods) & pythons - set(METHODS_OF_CLASSES), set())
        for path, tree in trees():
            called = set(node.func for node in ast.walk(tree) if isinstance(node, ast.Call))
            for node in ast.walk(tree):
                if isinstance(node, ast.Attribute) and node.attr not in values:
                    self.assertIn(node.attr, OWN_METHODS | methods, (path, node.lineno))
                    self.assertIn(node, called, (path, node.lineno))

    def test_top_of_files(self):
        for path, tree in trees():
            names = [name for node in tree.body for name in top_names(node)]
            self.assertEqual(len(names), len(set(names)), path)
            self.assertTrue(ast.get_docstring(tree), path)
            for node in tree.body[1:]:
                self.assertIsInstance(node, (ast.ImportFrom, ast.FunctionDef, ast.ClassDef, ast.Assign),
                                      (path, node.lineno))
                if isinstance(node, ast.Assign):
                    for part in ast.walk(node.value):
                        if part != node.value:
                            self.assertNotIsInstance(part, (ast.List, ast.Dict, ast.Call), (path, node.lineno))

    def test_imports(self):
        drawn = {}
        tops = {}
        for path, tree in trees():
            module = "mineroads." + path.stem
            tops[module] = [name for node in tree.body if not isinstance(node, ast.ImportFrom)
                            for name in top_names(node)]
            drawn[module] = [node for node in ast.walk(tree) if isinstance(node, ast.ImportFrom)]
        for module, rows in drawn.items():
            for row in rows:
                self.assertEqual(row.level, 0, module)
                for name in row.names:
                    self.assertIsNone(name.asname, module)
                    self.assertIn(name.name, tops[row.module], module)
        self.assertFalse(self.in_a_ring({module: [row.module for row in rows] for module, rows in drawn.items()}))

    def in_a_ring(self, drawn):
        """Whether files draw from one another: whether some are left when those that draw from none left are taken."""
        left = dict(drawn)
        while True:
            free = [module for module in left if not any(other in left for other in left[module])]
            if not free:
                return bool(left)
            for module in free:
                left.pop(module)


if __name__ == "__main__":
    unittest.main()
