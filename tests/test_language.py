"""The package keeps to the part of Python that it is written in."""

import ast
import os
import re
import unittest

import leavehall

FOLDER = os.path.dirname(os.path.abspath(leavehall.__file__))
NODES = (
    "Module Expr Constant ImportFrom alias FunctionDef arguments arg Return ClassDef Assign AugAssign If While For "
    "Break Continue Pass Raise Try ExceptHandler Call Attribute Name Load Store Subscript Slice List Tuple Dict "
    "BinOp Add Sub Mult FloorDiv Mod Pow BitAnd BitOr BitXor LShift RShift UnaryOp USub UAdd Not Invert BoolOp And Or "
    "Compare Eq NotEq Lt LtE Gt GtE Is IsNot In NotIn IfExp ListComp comprehension JoinedStr FormattedValue Lambda "
    "keyword Set AnnAssign"
).split()
METHODS = (
    "append clear copy count endswith extend find get index insert isalnum isalpha isdigit islower isspace isupper "
    "items join keys ljust lower lstrip partition pop remove replace reverse rfind rjust rpartition rsplit rstrip "
    "setdefault split splitlines startswith strip update upper values zfill bit_length __init__"
).split()
OWN_NAMES = (
    "len range enumerate zip min max sum abs sorted reversed int str bool list tuple dict set frozenset isinstance "
    "ord repr any all divmod Exception ValueError TypeError KeyError IndexError LookupError ZeroDivisionError "
    "ArithmeticError OverflowError RuntimeError NotImplementedError AttributeError StopIteration"
).split()
NOT_USED = re.compile(
    r"\b(type|typing|typing_extensions|enum|Enum|IntEnum|StrEnum|Flag|IntFlag|Generic|Protocol|ABC|ABCMeta|namedtuple"
    r"|NamedTuple|TypedDict|TYPE_CHECKING|abstractmethod)\b|dataclass|overload|contextmanager"
)
PYTHONS_TEXTS = {name for kind in (str, int, list, dict, set, bytes) for name in dir(kind)}
PYTHONS_OWN = dir(__builtins__) if not isinstance(__builtins__, dict) else list(__builtins__)


def sources():
    for place, folders, files in os.walk(FOLDER):
        folders[:] = [folder for folder in folders if folder != "__pycache__"]
        for name in files:
            path = os.path.join(place, name)
            with open(path, encoding="utf-8", newline="") as file:
                yield path, file.read()


class LanguageTest(unittest.TestCase):
    def test_files(self):
        for path, text in sources():
            with self.subTest(path):
                self.assertRegex(os.path.basename(path), r"^([a-z][a-z0-9_]*|__init__|__main__)\.py$")
                self.assertRegex(text, r"\A[ -~\n]*\Z")
                self.assertLessEqual(len(text.splitlines()), 400)
                self.assertLessEqual(max([len(line) for line in text.splitlines()], default=0), 120)
                self.assertIsNone(NOT_USED.search(text))

    def test_statements_and_values(self):
        for path, text in sources():
            for node in ast.walk(ast.parse(text)):
                with self.subTest(path, line=getattr(node, "lineno", None)):
                    self.assertIn(type(node).__name__, NODES)
                    if isinstance(node, ast.Constant):
                        self.assertIn(type(node.value), (int, str, bool, type(None)))
                    if isinstance(node, ast.Assign):
                        self.assertEqual(len(node.targets), 1)
                    if isinstance(node, ast.FunctionDef):
                        self.assertLessEqual(node.end_lineno - node.lineno + 1, 40)
                        self.assertEqual(node.decorator_list, [])
                        self.assertIsNone(node.args.vararg or node.args.kwarg)
                    if isinstance(node, (ast.For, ast.While, ast.Try)):
                        self.assertTrue(isinstance(node, ast.Try) or not node.orelse)

    def test_imports(self):
        for path, text in sources():
            for node in ast.walk(ast.parse(text)):
                if isinstance(node, ast.ImportFrom):
                    with self.subTest(path, line=node.lineno):
                        self.assertEqual(node.level, 0)
                        self.assertRegex(node.module, r"^(__future__$|leavehall\.)")
                        self.assertNotIn("*", [name.name for name in node.names])

    def test_names(self):
        trees = [(path, ast.parse(text)) for path, text in sources()]
        own = [node.name for _, tree in trees for node in ast.walk(tree) if isinstance(node, ast.FunctionDef)]
        for path, tree in trees:
            for node in ast.walk(tree):
                with self.subTest(path, line=getattr(node, "lineno", None)):
                    if isinstance(node, ast.Name) and isinstance(node.ctx, ast.Store) or isinstance(node, ast.arg):
                        name = node.id if isinstance(node, ast.Name) else node.arg
                        self.assertRegex(name, r"^[A-Za-z][A-Za-z0-9_]*$")
                        self.assertNotIn(name, PYTHONS_OWN)
                    elif isinstance(node, ast.Name) and node.id in PYTHONS_OWN:
                        self.assertIn(node.id, OWN_NAMES)
                    elif isinstance(node, ast.Call) and isinstance(node.func, ast.Attribute):
                        self.assertIn(node.func.attr, METHODS + own)

    def test_texts(self):
        for path, text in sources():
            for node in ast.walk(ast.parse(text)):
                with self.subTest(path, line=getattr(node, "lineno", None)):
                    if isinstance(node, ast.FormattedValue):
                        self.assertIsInstance(node.value, ast.Name)
                        self.assertIsNone(node.format_spec)
                    elif isinstance(node, ast.Constant) and isinstance(node.value, str):
                        self.assertNotIn("%", node.value)

    def test_each_name_has_one_meaning(self):
        for path, text in sources():
            tree = ast.parse(text)
            top = {name.name for node in tree.body if isinstance(node, ast.ImportFrom) for name in node.names}
            top |= {node.name for node in tree.body if isinstance(node, ast.ClassDef)}
            for node in ast.walk(tree):
                with self.subTest(path, line=getattr(node, "lineno", None)):
                    if isinstance(node, ast.Name) and isinstance(node.ctx, ast.Store):
                        self.assertNotIn(node.id, top)
                    elif isinstance(node, ast.arg):
                        self.assertNotIn(node.arg, top)

    def test_no_method_is_called_like_a_value(self):
        nodes = [node for _, text in sources() for node in ast.walk(ast.parse(text))]
        methods = {part.name for node in nodes if isinstance(node, ast.ClassDef)
                   for part in node.body if isinstance(part, ast.FunctionDef)}
        values = {node.attr for node in nodes if isinstance(node, ast.Attribute) and isinstance(node.ctx, ast.Store)}
        self.assertEqual(methods & values, set())
        self.assertEqual([name for name in methods | values if name in PYTHONS_TEXTS and name != "__init__"], [])


if __name__ == "__main__":
    unittest.main()
