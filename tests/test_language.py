"""The package's files keep to the part of Python that the project allows, as far as a reading of them can tell."""

import ast
import builtins
import re
import unittest
from pathlib import Path

PACKAGE = Path(__file__).resolve().parent.parent / "stripfold"

NODES = set(
    "Module Expr Constant FunctionDef arguments arg ClassDef Return Assign AugAssign For While If Raise Try"
    " ExceptHandler Pass Break Continue ImportFrom alias Call Attribute Subscript Slice Name Load Store List Tuple Dict"
    " ListComp comprehension Lambda IfExp BinOp UnaryOp BoolOp Compare JoinedStr FormattedValue Add Sub Mult FloorDiv"
    " Mod Pow BitAnd BitOr BitXor LShift RShift Invert Not USub UAdd And Or Eq NotEq Lt LtE Gt GtE Is IsNot In NotIn".split()
)
BUILTINS = set(
    "len range enumerate zip min max sum abs sorted reversed int str bool list tuple dict set frozenset isinstance ord"
    " repr any all divmod Exception ValueError TypeError KeyError IndexError LookupError ZeroDivisionError"
    " ArithmeticError OverflowError RuntimeError NotImplementedError AttributeError StopIteration".split()
)
METHODS = set(
    "append clear copy count endswith extend find get index insert isalnum isalpha isdigit islower isspace isupper items"
    " join keys ljust lower lstrip partition pop remove replace reverse rfind rjust rpartition rsplit rstrip setdefault"
    " split splitlines startswith strip update upper values zfill bit_length".split()
)
DUNDERS = {"__init__", "__eq__", "__repr__", "__str__", "__len__"}
BANNED_WORDS = re.compile(
    r"\b(type|typing|typing_extensions|enum|Enum|IntEnum|StrEnum|Flag|IntFlag|Generic|Protocol|ABC|ABCMeta|namedtuple"
    r"|NamedTuple|TypedDict|TYPE_CHECKING|abstractmethod)\b|dataclass|overload|contextmanager"
)
BANNED_NAMES = set("register mro elements open input version_info with_traceback add_note format format_map".split())


def sources():
    return [(path.name, path.read_text(encoding="utf-8")) for path in sorted(PACKAGE.glob("*.py"))]


def trees():
    return [(name, ast.parse(text)) for name, text in sources()]


def bound_names(tree):
    names = [node.id for node in ast.walk(tree) if isinstance(node, ast.Name) and isinstance(node.ctx, ast.Store)]
    names += [node.arg for node in ast.walk(tree) if isinstance(node, ast.arg)]
    names += [node.name for node in ast.walk(tree) if isinstance(node, (ast.FunctionDef, ast.ClassDef))]
    names += [item.name for node in ast.walk(tree) if isinstance(node, ast.ImportFrom) for item in node.names]
    return names


class Files(unittest.TestCase):
    def test_only_source_files_with_plain_names(self):
        names = [path.name for path in PACKAGE.iterdir() if path.name != "__pycache__"]
        self.assertIn("__init__.py", names)
        for name in names:
            self.assertRegex(name, r"^([a-z][a-z0-9_]*|__init__|__main__)\.py$")

    def test_signs_and_sizes(self):
        for name, text in sources():
            self.assertLessEqual(len(text.splitlines()), 400, name)
            self.assertRegex(text, r"\A[ -~\n]*\Z", name)
            self.assertIsNone(BANNED_WORDS.search(text), name)
            for line in text.splitlines():
                self.assertLessEqual(len(line), 120, (name, line))

    def test_functions_are_small(self):
        for name, tree in trees():
            for node in ast.walk(tree):
                if isinstance(node, ast.FunctionDef):
                    self.assertLessEqual(node.end_lineno - node.lineno + 1, 40, (name, node.name))


class Forms(unittest.TestCase):
    def test_only_allowed_forms(self):
        for name, tree in trees():
            for node in ast.walk(tree):
                self.assertIn(node.__class__.__name__, NODES, (name, getattr(node, "lineno", None)))

    def test_top_holds_only_what_it_may(self):
        allowed = (ast.ImportFrom, ast.FunctionDef, ast.ClassDef, ast.Assign)
        for name, tree in trees():
            self.assertIsNotNone(ast.get_docstring(tree), name)
            for node in tree.body[1:]:
                self.assertIsInstance(node, allowed, (name, node.lineno))
            tops = [node.name for node in tree.body if isinstance(node, (ast.FunctionDef, ast.ClassDef))]
            self.assertEqual(len(tops), len(set(tops)), name)

    def test_a_lone_expression_is_a_call_or_the_docstring(self):
        for name, tree in trees():
            for node in ast.walk(tree):
                if isinstance(node, ast.Expr) and node is not tree.body[0]:
                    self.assertIsInstance(node.value, ast.Call, (name, node.lineno))

    def test_plain_functions_and_classes(self):
        for name, tree in trees():
            for node in ast.walk(tree):
                if isinstance(node, (ast.FunctionDef, ast.ClassDef)):
                    self.assertEqual(node.decorator_list, [], (name, node.name))
                if isinstance(node, ast.ClassDef):
                    self.assertLessEqual(len(node.bases), 1, (name, node.name))
                    for part in node.body:
                        self.assertIsInstance(part, (ast.FunctionDef, ast.Pass), (name, node.name))
                if isinstance(node, ast.arguments):
                    bare = (node.vararg, node.kwarg, node.kwonlyargs, node.posonlyargs)
                    self.assertEqual(bare, (None, None, [], []), name)

    def test_plain_values(self):
        for name, tree in trees():
            for node in ast.walk(tree):
                if isinstance(node, ast.Constant):
                    self.assertIn(node.value.__class__.__name__, ("int", "str", "bool", "NoneType"), (name, node.lineno))
                    if isinstance(node.value, str):
                        self.assertNotIn("%", node.value, (name, node.lineno))
                if isinstance(node, ast.FormattedValue):
                    self.assertIsInstance(node.value, ast.Name, (name, node.lineno))
                    self.assertIsNone(node.format_spec, (name, node.lineno))


class Names(unittest.TestCase):
    def test_imports_are_the_packages_own_from_where_they_are_defined(self):
        defined = {f"stripfold.{name[:-3]}": bound_names(tree) for name, tree in trees()}
        drawn = {name: [] for name in defined}
        for name, tree in trees():
            for node in ast.walk(tree):
                if isinstance(node, ast.ImportFrom):
                    self.assertEqual(node.level, 0, name)
                    self.assertIn(node.module, defined, name)
                    drawn[f"stripfold.{name[:-3]}"].append(node.module)
                    for item in node.names:
                        self.assertIn(item.name, defined[node.module], name)
        self.assertEqual(drawn["stripfold.__init__"], [])
        while drawn:
            ends = [name for name in drawn if not set(drawn[name]) & set(drawn)]
            self.assertTrue(ends, f"these draw from one another: {sorted(drawn)}")
            drawn = {name: drawn[name] for name in drawn if name not in ends}

    def test_bound_names_are_plain_words(self):
        for name, tree in trees():
            for word in bound_names(tree):
                if word not in DUNDERS:
                    self.assertRegex(word, r"^[A-Za-z][A-Za-z0-9_]*$", name)
                self.assertNotIn(word, BANNED_NAMES, name)
                self.assertNotIn(word, dir(builtins), name)

    def test_read_names_are_own_or_allowed(self):
        for name, tree in trees():
            known = BUILTINS | set(bound_names(tree))
            for node in ast.walk(tree):
                if isinstance(node, ast.Name):
                    self.assertIn(node.id, known, (name, node.lineno))

    def test_attributes_are_own_or_allowed(self):
        own = DUNDERS | METHODS
        for name, tree in trees():
            for node in ast.walk(tree):
                if isinstance(node, ast.ClassDef):
                    own |= {part.name for part in node.body if isinstance(part, ast.FunctionDef)}
                if isinstance(node, ast.Attribute) and isinstance(node.ctx, ast.Store):
                    own.add(node.attr)
        for name, tree in trees():
            for node in ast.walk(tree):
                if isinstance(node, ast.Attribute):
                    self.assertIn(node.attr, own, (name, node.lineno))
                    self.assertNotIn(node.attr, BANNED_NAMES, (name, node.lineno))


if __name__ == "__main__":
    unittest.main()
