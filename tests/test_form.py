"""The package keeps to the small part of Python that it is written in; what a look at its files can tell."""

import ast
import builtins
import pathlib
import re
import unittest

PACKAGE = pathlib.Path(__file__).resolve().parent.parent / "roundsum"

NODES = """Module ImportFrom alias FunctionDef arguments arg Lambda ClassDef Assign AugAssign AnnAssign If While For
Return Break Continue Pass Raise Try ExceptHandler Expr Constant List Tuple Dict Set Add Sub Mult FloorDiv Mod Pow
BitAnd BitOr BitXor LShift RShift Invert USub Not BinOp UnaryOp BoolOp And Or Compare Eq NotEq Lt LtE Gt GtE In NotIn
Is IsNot IfExp Call keyword Attribute Subscript Slice ListComp comprehension JoinedStr FormattedValue Name Load
Store""".split()
OWN_NAMES = """len range enumerate zip min max sum abs sorted reversed int str bool list tuple dict set frozenset
isinstance ord repr any all divmod Exception ValueError TypeError KeyError IndexError LookupError ZeroDivisionError
ArithmeticError OverflowError RuntimeError NotImplementedError AttributeError StopIteration""".split()
METHODS = """append clear copy count endswith extend find get index insert isalnum isalpha isdigit islower isspace
isupper items join keys ljust lower lstrip partition pop remove replace reverse rfind rjust rpartition rsplit rstrip
setdefault split splitlines startswith strip update upper values zfill bit_length""".split()
NOT_WRITTEN = re.compile(r"\b(type|typing|typing_extensions|enum|Enum|IntEnum|StrEnum|Flag|IntFlag|Generic|Protocol"
                         r"|ABC|ABCMeta|namedtuple|NamedTuple|TypedDict|TYPE_CHECKING|abstractmethod)\b"
                         r"|dataclass|overload|contextmanager")

WALKED = ("zip", "enumerate", "reversed", "range")
WALKERS = ("list", "tuple", "dict", "sorted", "sum", "any", "all", "enumerate", "zip")


def files():
    return sorted(path for path in PACKAGE.rglob("*") if path.is_file() and "__pycache__" not in path.parts)


def trees():
    return {path: ast.parse(path.read_text(encoding="ascii")) for path in files()}


def all_nodes():
    for path, tree in trees().items():
        for node in ast.walk(tree):
            yield f"{path.name}:{getattr(node, 'lineno', 0)}", node


def drawn_from(tree):
    return [node.module for node in tree.body if isinstance(node, ast.ImportFrom)]


class Form(unittest.TestCase):
    def test_files(self):
        self.assertGreater(len(files()), 3)
        for path in files():
            self.assertRegex(path.name, r"^(__init__|[a-z][a-z0-9_]*)\.py$")
            self.assertNotIn(path.stem, dir(builtins))
            text = path.read_text(encoding="ascii")
            self.assertRegex(text, r"\A[ -~\n]*\Z", path)
            self.assertLessEqual(len(text.splitlines()), 400, path)
            self.assertLessEqual(max(len(line) for line in text.splitlines()), 120, path)
            self.assertIsNone(NOT_WRITTEN.search(text), path)

    def test_nodes(self):
        for place, node in all_nodes():
            self.assertIn(node.__class__.__name__, NODES, place)
            if isinstance(node, (ast.FunctionDef, ast.ClassDef)):
                self.assertEqual(node.decorator_list, [], place)
            if isinstance(node, ast.FunctionDef):
                self.assertLessEqual(node.end_lineno - node.lineno + 1, 40, place)
                self.assertIsNone(node.args.vararg or node.args.kwarg or node.returns, place)
                self.assertEqual(node.args.kwonlyargs + node.args.posonlyargs, [], place)
            if isinstance(node, ast.Assign):
                self.assertEqual(len(node.targets), 1, place)
            if isinstance(node, ast.Constant):
                self.assertIn(node.value.__class__, (int, str, bool, type(None)), place)
                self.assertNotIn("%", str(node.value), place)
            if isinstance(node, ast.ListComp):
                self.assertEqual(len(node.generators), 1, place)
                self.assertLessEqual(len(node.generators[0].ifs), 1, place)
            if isinstance(node, (ast.For, ast.While)):
                self.assertEqual(node.orelse, [], place)

    def test_the_top_of_a_file(self):
        for path, tree in trees().items():
            self.assertIsInstance(tree.body[0], ast.Expr, path)
            self.assertIsInstance(tree.body[0].value, ast.Constant, path)
            for node in tree.body[1:]:
                self.assertIsInstance(node, (ast.ImportFrom, ast.FunctionDef, ast.ClassDef, ast.Assign), path)
                if isinstance(node, ast.Assign):
                    ast.literal_eval(node.value)

    def test_narrower_forms(self):
        for place, node in all_nodes():
            if isinstance(node, ast.Assign):
                self.assertIsInstance(node.targets[0], (ast.Name, ast.Subscript), place)
            if isinstance(node, ast.FormattedValue):
                self.assertIsInstance(node.value, ast.Name, place)
                self.assertIsNone(node.format_spec, place)
            if isinstance(node, ast.Compare) and isinstance(node.ops[0], (ast.Is, ast.IsNot)):
                self.assertIn(getattr(node.comparators[0], "value", 0), (None, True, False), place)
            if isinstance(node, ast.BinOp) and isinstance(node.op, ast.Pow):
                self.assertIsInstance(node.right, ast.Constant, place)
            if isinstance(node, ast.Raise):
                self.assertIsInstance(node.exc, ast.Call, place)

    def test_walked_at_once(self):
        walked = []
        for place, node in all_nodes():
            if isinstance(node, (ast.For, ast.comprehension)):
                walked.append(node.iter)
            if isinstance(node, ast.Call) and isinstance(node.func, ast.Name) and node.func.id in WALKERS:
                walked = walked + node.args[:1]
        places = [(node.lineno, node.col_offset, ast.dump(node)) for node in walked]
        for place, node in all_nodes():
            if isinstance(node, ast.Call) and isinstance(node.func, ast.Name) and node.func.id in WALKED:
                self.assertIn((node.lineno, node.col_offset, ast.dump(node)), places, place)

    def test_names(self):
        for place, node in all_nodes():
            if isinstance(node, ast.Name) and node.id in dir(builtins):
                self.assertIn(node.id, OWN_NAMES, place)
                self.assertIsInstance(node.ctx, ast.Load, place)
            names = [getattr(node, field, None) for field in ("id", "name", "arg", "attr")]
            for name in [name for name in names if name]:
                self.assertRegex(name, r"^([a-zA-Z][a-zA-Z0-9_]*|__(init|eq|repr|str|len)__)$", place)
            if isinstance(node, (ast.arg, ast.FunctionDef, ast.ClassDef)):
                self.assertNotIn(getattr(node, "arg", getattr(node, "name", None)), dir(builtins), place)
            if isinstance(node, ast.Attribute):
                self.assertIn(node.attr, METHODS, place)

    def test_no_local_is_called_like_an_import_or_a_class(self):
        for path, tree in trees().items():
            taken = [alias.name for node in tree.body if isinstance(node, ast.ImportFrom) for alias in node.names]
            taken = taken + [node.name for node in tree.body if isinstance(node, ast.ClassDef)]
            for node in ast.walk(tree):
                if isinstance(node, ast.arg):
                    self.assertNotIn(node.arg, taken, path)
                if isinstance(node, ast.Name) and isinstance(node.ctx, ast.Store):
                    self.assertNotIn(node.id, taken, path)

    def test_imports(self):
        defined = {}
        for path, tree in trees().items():
            names = [node.name for node in tree.body if isinstance(node, (ast.FunctionDef, ast.ClassDef))]
            names = names + [node.targets[0].id for node in tree.body if isinstance(node, ast.Assign)]
            self.assertEqual(len(names), len(set(names)), path)
            defined["roundsum." + path.stem] = names
        self.assertEqual(defined["roundsum.__init__"], [])
        for place, node in all_nodes():
            if isinstance(node, ast.ImportFrom):
                self.assertEqual((node.level, node.col_offset), (0, 0), place)
                for alias in node.names:
                    self.assertIn(alias.name, defined[node.module], place)
                    self.assertIsNone(alias.asname, place)

    def test_no_two_files_draw_from_one_another(self):
        waiting = {"roundsum." + path.stem: drawn_from(tree) for path, tree in trees().items()}
        while waiting:
            free = [name for name, sources in waiting.items() if not any(source in waiting for source in sources)]
            self.assertNotEqual(free, [], waiting)
            for name in free:
                del waiting[name]
