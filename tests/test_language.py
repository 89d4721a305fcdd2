"""The package's files keep to the part of Python that LANGUAGE.md tells, as far as a look at each file can see it."""

import ast
import builtins
import pathlib
import re
import unittest

PACKAGE = pathlib.Path(__file__).resolve().parent.parent / "emptyhall"

NODES = set(
    "Module FunctionDef ClassDef arguments arg Return Assign AugAssign For While If Raise Try ExceptHandler ImportFrom"
    " alias Expr Pass Break Continue BoolOp BinOp UnaryOp Lambda IfExp Dict Set ListComp comprehension Compare Call"
    " JoinedStr FormattedValue Constant Attribute Subscript Name List Tuple Slice Load Store And Or Not Add Sub Mult"
    " FloorDiv Mod Pow BitAnd BitOr BitXor LShift RShift Invert UAdd USub Eq NotEq Lt LtE Gt GtE Is IsNot In NotIn"
    " keyword".split()
)
BUILTINS = set(
    "len range enumerate zip min max sum abs sorted reversed int str bool list tuple dict set frozenset isinstance ord"
    " repr any all divmod Exception ValueError KeyError IndexError LookupError ZeroDivisionError ArithmeticError"
    " OverflowError RuntimeError NotImplementedError StopIteration".split()
)
METHODS = set(
    "append clear copy count endswith extend find get index insert isalnum isalpha isdigit islower isspace isupper"
    " items join keys ljust lower lstrip partition pop remove replace reverse rfind rjust rpartition rsplit rstrip"
    " setdefault split splitlines startswith strip update upper values zfill bit_length".split()
)
DUNDERS = {"__init__", "__eq__", "__repr__", "__str__", "__len__"}
UNUSED_NAMES = set(
    "register mro elements open input version_info with_traceback add_note attrgetter breakpoint builtins compile"
    " copyright credits delattr dir eval exec exit gc getattr globals hasattr help id importlib license locals"
    " methodcaller os quit setattr super type vars sys __name__".split()
)
UNUSED_WORDS = re.compile(
    r"\b(type|typing|typing_extensions|enum|Enum|IntEnum|StrEnum|Flag|IntFlag|Generic|Protocol|ABC|ABCMeta|namedtuple"
    r"|NamedTuple|TypedDict|TYPE_CHECKING|abstractmethod)\b|dataclass|overload|contextmanager"
)


def files():
    return sorted(PACKAGE.glob("*.py"))


def nodes():
    """Each part of each file, and where it stands."""
    for path in files():
        for node in ast.walk(ast.parse(path.read_text("utf-8"))):
            line = getattr(node, "lineno", 0)
            yield f"{path.name}:{line}", node


def bound_names(node):
    """The names that a node gives, if any."""
    if isinstance(node, ast.Name) and isinstance(node.ctx, ast.Store):
        return [node.id]
    if isinstance(node, ast.arg):
        return [node.arg]
    if isinstance(node, (ast.FunctionDef, ast.ClassDef)):
        return [node.name]
    if isinstance(node, ast.Attribute) and isinstance(node.ctx, ast.Store):
        return [node.attr]
    if isinstance(node, ast.ExceptHandler) and node.name:
        return [node.name]
    return []


def top_names(node):
    """The names that a row at a file's top binds."""
    if isinstance(node, ast.ImportFrom):
        return [alias.name for alias in node.names]
    if isinstance(node, ast.Assign):
        return [target.id for target in node.targets]
    return bound_names(node)


class Language(unittest.TestCase):
    def test_only_plainly_named_files_lie_in_the_package(self):
        there = sorted(path.name for path in PACKAGE.iterdir() if path.name != "__pycache__")
        self.assertEqual(there, [path.name for path in files()])
        self.assertIn("__init__.py", there)
        for name in there:
            self.assertRegex(name, r"^([a-z][a-z0-9_]*|__init__|__main__)\.py$")

    def test_sizes_signs_and_words(self):
        for path in files():
            text = path.read_text("utf-8")
            with self.subTest(file=path.name):
                self.assertRegex(text, r"\A[ -~\n]*\Z")
                self.assertIsNone(UNUSED_WORDS.search(text))
                self.assertLessEqual(len(text.splitlines()), 400)
                self.assertLessEqual(max(len(line) for line in text.splitlines()), 120)

    def test_only_the_told_statements_and_expressions(self):
        for where, node in nodes():
            self.assertIn(node.__class__.__name__, NODES, where)

    def test_functions_are_small_and_plain(self):
        for where, node in nodes():
            if isinstance(node, ast.FunctionDef):
                self.assertLessEqual(node.end_lineno - node.lineno + 1, 40, where)
                self.assertEqual(node.decorator_list, [], where)
                given = node.args
                self.assertFalse(given.vararg or given.kwarg or given.kwonlyargs or given.posonlyargs, where)

    def test_imports_are_the_packages_own(self):
        for where, node in nodes():
            if isinstance(node, ast.ImportFrom):
                self.assertEqual(node.level, 0, where)
                self.assertTrue(node.module.startswith("emptyhall."), where)
                self.assertTrue(all(alias.name != "*" and alias.asname is None for alias in node.names), where)

    def test_names(self):
        for where, node in nodes():
            for name in bound_names(node):
                if name not in DUNDERS:
                    self.assertRegex(name, r"^[A-Za-z][A-Za-z0-9_]*$", where)
                if not isinstance(node, ast.Attribute):
                    self.assertFalse(hasattr(builtins, name) and name not in DUNDERS, where)
            if isinstance(node, ast.Name):
                self.assertNotIn(node.id, UNUSED_NAMES, where)
                if hasattr(builtins, node.id):
                    self.assertIn(node.id, BUILTINS, where)

    def test_methods_of_pythons_own_values(self):
        kinds = (str, int, list, dict, tuple, set, bytes)
        for where, node in nodes():
            if isinstance(node, ast.Attribute) and any(hasattr(kind, node.attr) for kind in kinds):
                self.assertIn(node.attr, METHODS | DUNDERS, where)

    def test_one_target_and_no_other_values(self):
        for where, node in nodes():
            if isinstance(node, ast.Assign):
                self.assertEqual(len(node.targets), 1, where)
            if isinstance(node, (ast.For, ast.While)):
                self.assertEqual(node.orelse, [], where)
            if isinstance(node, ast.Try):
                self.assertEqual(node.finalbody, [], where)
            if isinstance(node, ast.Constant):
                self.assertTrue(node.value is None or isinstance(node.value, (int, str)), where)
                self.assertNotIn("%", str(node.value), where)
            if isinstance(node, ast.Compare):
                for sign, other in zip(node.ops, node.comparators):
                    if isinstance(sign, (ast.Is, ast.IsNot)):
                        self.assertTrue(isinstance(other, ast.Constant) and other.value in (None, True, False), where)

    def test_classes(self):
        methods = []
        values = []
        for where, node in nodes():
            if isinstance(node, ast.ClassDef):
                self.assertLessEqual(len(node.bases), 1, where)
                self.assertEqual((node.decorator_list, node.keywords), ([], []), where)
                inner = [part for part in node.body if not isinstance(part, ast.Expr)]
                self.assertTrue(all(isinstance(part, ast.FunctionDef) for part in inner), where)
                methods.extend(part.name for part in inner)
            if isinstance(node, ast.Attribute) and isinstance(node.ctx, ast.Store):
                values.append(node.attr)
        self.assertEqual(set(methods) & set(values), set())

    def test_the_top_of_a_file(self):
        for path in files():
            body = ast.parse(path.read_text("utf-8")).body
            for node in body:
                where = f"{path.name}:{node.lineno}"
                kinds = (ast.Expr, ast.ImportFrom, ast.FunctionDef, ast.ClassDef, ast.Assign)
                self.assertIsInstance(node, kinds, where)
                if isinstance(node, ast.Expr):
                    self.assertTrue(isinstance(node.value, ast.Constant) and isinstance(node.value.value, str), where)
                if isinstance(node, ast.Assign):
                    ast.literal_eval(node.value)
            names = [name for node in body for name in top_names(node)]
            self.assertEqual(len(names), len(set(names)), path.name)

    def test_what_is_walked_at_once_is_not_kept(self):
        walked = ("zip", "enumerate", "reversed", "range", "items", "keys", "values", "set")
        for where, node in nodes():
            if isinstance(node, (ast.Assign, ast.Return, ast.AugAssign)) and isinstance(node.value, ast.Call):
                called = node.value.func
                name = called.id if isinstance(called, ast.Name) else called.attr
                self.assertNotIn(name, walked, where)

    def test_no_two_files_draw_from_one_another(self):
        drawn = {}
        for path in files():
            imports = [node for node in ast.parse(path.read_text("utf-8")).body if isinstance(node, ast.ImportFrom)]
            drawn["emptyhall." + path.stem] = [node.module for node in imports]
        # Taken away one after another, the files that draw from none that is left must be all of them.
        while drawn:
            ended = [name for name, sources in drawn.items() if not set(sources) & set(drawn)]
            self.assertNotEqual(ended, [], drawn)
            drawn = {name: sources for name, sources in drawn.items() if name not in ended}

    def test_pythons_value_error_is_taken_round_int_alone(self):
        for where, node in nodes():
            if isinstance(node, ast.Try):
                taken = [handler.type.id for handler in node.handlers]
                self.assertFalse(set(taken) & {"Exception", "TypeError", "AttributeError"}, where)
                if "ValueError" in taken:
                    inner = [part for row in node.body for part in ast.walk(row)]
                    called = [part.func.id for part in inner if isinstance(part, ast.Call)]
                    self.assertEqual((len(node.body), called), (1, ["int"]), where)


if __name__ == "__main__":
    unittest.main()
