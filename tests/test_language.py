"""The package's files keep to the part of Python that the project allows, as far as a reading of them can tell."""

import ast
import builtins
import re
import unittest
from pathlib import Path

PACKAGE = Path(__file__).resolve().parent.parent / "stripfold"

NODES = set(
    "Module Expr Constant FunctionDef arguments arg ClassDef Return Assign AugAssign For While If Raise Try"
    " ExceptHandler Pass Break Continue ImportFrom alias Call Attribute Subscript Slice Name Load Store List Tuple Dict"
    " ListComp comprehension Lambda keyword IfExp BinOp UnaryOp BoolOp Compare JoinedStr FormattedValue Add Sub Mult"
    " FloorDiv Mod Pow BitAnd BitOr BitXor LShift RShift Invert Not USub UAdd And Or Eq NotEq Lt LtE Gt GtE Is IsNot In NotIn".split()
)
BUILTINS = set(
    "len range enumerate zip min max sum abs sorted reversed int str bool list tuple dict set frozenset isinstance ord"
    " repr any all divmod Exception ValueError TypeError KeyError IndexError LookupError ZeroDivisionError"
    " ArithmeticError OverflowError RuntimeError NotImplementedError AttributeError StopIteration".split()
)
METHODS = set(
    "append clear copy count endswith extend find get index insert isalnum isalpha isdigit islower isspace isupper items"
    " join keys ljust lower lstrip partition pop remove replace reverse rfind rjust rpartition rsplit rstrip setdefault"
    " split splitlines startswith strip update upper values zfill bit_length".split()
)
DUNDERS = {"__init__", "__eq__", "__repr__", "__str__", "__len__"}
BANNED_WORDS = re.compile(
    r"\b(type|typing|typing_extensions|enum|Enum|IntEnum|StrEnum|Flag|IntFlag|Generic|Protocol|ABC|ABCMeta|namedtuple"
    r"|NamedTuple|TypedDict|TYPE_CHECKING|abstractmethod)\b|dataclass|overload|contextmanager"
)
WALKED_NAMES = {"zip", "enumerate", "reversed", "range"}
WALKED_METHODS = {"items", "keys", "values"}
WALKERS = {"list", "tuple", "dict", "sorted", "sum", "any", "all", "enumerate", "zip"}
KEYWORDS = {"sorted": {"key", "reverse"}, "min": {"key", "default"}, "max": {"key", "default"}, "sum": {"start"},
            "enumerate": {"start"}, "zip": {"strict"}}
PYTHONS_OWN = set().union(*(dir(kind) for kind in (str, int, list, tuple, dict, set, bytes)))
VALUE_NAMES = set("count index title find get join lower upper split strip copy add".split())
NOT_TAKEN = {"Exception", "TypeError"}
BANNED_NAMES = set("register mro elements open input version_info with_traceback add_note format format_map".split())


def sources():
    return [(path.name, path.read_text(encoding="utf-8")) for path in sorted(PACKAGE.glob("*.py"))]


def trees():
    return [(name, ast.parse(text)) for name, text in sources()]


def bound_names(tree):
    names = [node.id for node in ast.walk(tree) if isinstance(node, ast.Name) and isinstance(node.ctx, ast.Store)]
    names += [node.arg for node in ast.walk(tree) if isinstance(node, ast.arg)]
    names += [node.name for node in ast.walk(tree) if isinstance(node, (ast.FunctionDef, ast.ClassDef))]
    names += [item.name for node in ast.walk(tree) if isinstance(node, ast.ImportFrom) for item in node.names]
    return names


class Files(unittest.TestCase):
    def test_only_source_files_with_plain_names(self):
        names = [path.name for path in PACKAGE.iterdir() if path.name != "__pycache__"]
        self.assertIn("__init__.py", names)
        for name in names:
            self.assertRegex(name, r"^([a-z][a-z0-9_]*|__init__|__main__)\.py$")

    def test_signs_and_sizes(self):
        for name, text in sources():
            self.assertLessEqual(len(text.splitlines()), 400, name)
            self.assertRegex(text, r"\A[ -~\n]*\Z", name)
            self.assertIsNone(BANNED_WORDS.search(text), name)
            for line in text.splitlines():
                self.assertLessEqual(len(line), 120, (name, line))

    def test_functions_are_small(self):
        for name, tree in trees():
            for node in ast.walk(tree):
                if isinstance(node, ast.FunctionDef):
                    self.assertLessEqual(node.end_lineno - node.lineno + 1, 40, (name, node.name))


class Forms(unittest.TestCase):
    def test_only_allowed_forms(self):
        for name, tree in trees():
            for node in ast.walk(tree):
                self.assertIn(node.__class__.__name__, NODES, (name, getattr(node, "lineno", None)))

    def test_top_holds_only_what_it_may(self):
        allowed = (ast.ImportFrom, ast.FunctionDef, ast.ClassDef, ast.Assign)
        for name, tree in trees():
            self.assertIsNotNone(ast.get_docstring(tree), name)
            for node in tree.body[1:]:
                self.assertIsInstance(node, allowed, (name, node.lineno))
            tops = [node.name for node in tree.body if isinstance(node, (ast.FunctionDef, ast.ClassDef))]
            self.assertEqual(len(tops), len(set(tops)), name)

    def test_a_lone_expression_is_a_call_or_the_docstring(self):
        for name, tree in trees():
            for node in ast.walk(tree):
                if isinstance(node, ast.Expr) and node is not tree.body[0]:
                    self.assertIsInstance(node.value, ast.Call, (name, node.lineno))

    def test_plain_functions_and_classes(self):
        for name, tree in trees():
            for node in ast.walk(tree):
                if isinstance(node, (ast.FunctionDef, ast.ClassDef)):
                    self.assertEqual(node.decorator_list, [], (name, node.name))
                if isinstance(node, ast.ClassDef):
                    self.assertLessEqual(len(node.bases), 1, (name, node.name))
                    for part in node.body:
                        self.assertIsInstance(part, (ast.FunctionDef, ast.Pass), (name, node.name))
                if isinstance(node, ast.arguments):
                    bare = (node.vararg, node.kwarg, node.kwonlyargs, node.posonlyargs)
                    self.assertEqual(bare, (None, None, [], []), name)

    def test_plain_values(self):
        for name, tree in trees():
            for node in ast.walk(tree):
                if isinstance(node, ast.Constant):
                    self.assertIn(node.value.__class__.__name__, ("int", "str", "bool", "NoneType"), (name, node.lineno))
                    if isinstance(node.value, str):
                        self.assertNotIn("%", node.value, (name, node.lineno))
                if isinstance(node, ast.FormattedValue):
                    self.assertIsInstance(node.value, ast.Name, (name, node.lineno))
                    self.assertIsNone(node.format_spec, (name, node.lineno))


class Names(unittest.TestCase):
    def test_imports_are_the_packages_own_from_where_they_are_defined(self):
        defined = {f"stripfold.{name[:-3]}": bound_names(tree) for name, tree in trees()}
        drawn = {name: [] for name in defined}
        for name, tree in trees():
            for node in ast.walk(tree):
                if isinstance(node, ast.ImportFrom):
                    self.assertEqual(node.level, 0, name)
                    self.assertIn(node.module, defined, name)
                    drawn[f"stripfold.{name[:-3]}"].append(node.module)
                    for item in node.names:
                        self.assertIn(item.name, defined[node.module], name)
        self.assertEqual(drawn["stripfold.__init__"], [])
        while drawn:
            ends = [name for name in drawn if not set(drawn[name]) & set(drawn)]
            self.assertTrue(ends, f"these draw from one another: {sorted(drawn)}")
            drawn = {name: drawn[name] for name in drawn if name not in ends}

    def test_bound_names_are_plain_words(self):
        for name, tree in trees():
            for word in bound_names(tree):
                if word not in DUNDERS:
                    self.assertRegex(word, r"^[A-Za-z][A-Za-z0-9_]*$", name)
                self.assertNotIn(word, BANNED_NAMES, name)
                self.assertNotIn(word, dir(builtins), name)

    def test_read_names_are_own_or_allowed(self):
        for name, tree in trees():
            known = BUILTINS | set(bound_names(tree))
            for node in ast.walk(tree):
                if isinstance(node, ast.Name):
                    self.assertIn(node.id, known, (name, node.lineno))

    def test_attributes_are_own_or_allowed(self):
        own = DUNDERS | METHODS
        for name, tree in trees():
            for node in ast.walk(tree):
                if isinstance(node, ast.ClassDef):
                    own |= {part.name for part in node.body if isinstance(part, ast.FunctionDef)}
                if isinstance(node, ast.Attribute) and isinstance(node.ctx, ast.Store):
                    own.add(node.attr)
        for name, tree in trees():
            for node in ast.walk(tree):
                if isinstance(node, ast.Attribute):
                    self.assertIn(node.attr, own, (name, node.lineno))
                    self.assertNotIn(node.attr, BANNED_NAMES, (name, node.lineno))


def called(node):
    """The name that is called, of a plain name or of a method, else None."""
    if not isinstance(node, ast.Call):
        return None
    return getattr(node.func, "id", getattr(node.func, "attr", None))


def with_parents(tree):
    return [(child, node) for node in ast.walk(tree) for child in ast.iter_child_nodes(node)]


def methods_and_values():
    methods, values = set(), set()
    for name, tree in trees():
        for node in ast.walk(tree):
            if isinstance(node, ast.ClassDef):
                methods |= {part.name for part in node.body if isinstance(part, ast.FunctionDef)}
            if isinstance(node, ast.Attribute) and isinstance(node.ctx, ast.Store):
                values.add(node.attr)
    return methods, values


class Statements(unittest.TestCase):
    def test_one_target_and_no_else_behind_a_loop(self):
        for name, tree in trees():
            for node in ast.walk(tree):
                if isinstance(node, ast.Assign):
                    self.assertEqual(len(node.targets), 1, (name, node.lineno))
                    self.assertNotIsInstance(node.targets[0], (ast.Tuple, ast.List), (name, node.lineno))
                if isinstance(node, (ast.For, ast.While)):
                    self.assertEqual(node.orelse, [], (name, node.lineno))

    def test_comprehensions_have_one_for_and_at_most_one_if(self):
        for name, tree in trees():
            for node in ast.walk(tree):
                if isinstance(node, ast.ListComp):
                    self.assertEqual(len(node.generators), 1, (name, node.lineno))
                    self.assertLessEqual(len(node.generators[0].ifs), 1, (name, node.lineno))

    def test_is_stands_beside_none_true_and_false_alone(self):
        for name, tree in trees():
            for node in ast.walk(tree):
                if isinstance(node, ast.Compare) and isinstance(node.ops[0], (ast.Is, ast.IsNot)):
                    beside = getattr(node.comparators[0], "value", "nothing")
                    self.assertTrue(beside is None or beside is True or beside is False, (name, node.lineno))

    def test_no_annotations(self):
        for name, tree in trees():
            for node in ast.walk(tree):
                self.assertIsNone(getattr(node, "annotation", None), name)
                self.assertIsNone(getattr(node, "returns", None), name)

    def test_errors_are_made_on_the_spot_and_taken_by_name(self):
        for name, tree in trees():
            for node in ast.walk(tree):
                if isinstance(node, ast.Raise):
                    self.assertIsInstance(node.exc, ast.Call, (name, node.lineno))
                if isinstance(node, ast.Try):
                    self.assertEqual(node.finalbody, [], (name, node.lineno))
                if isinstance(node, ast.ExceptHandler):
                    self.assertIsInstance(node.type, ast.Name, (name, node.lineno))
                    self.assertNotIn(node.type.id, NOT_TAKEN, (name, node.lineno))

    def test_powers_have_a_written_exponent(self):
        for name, tree in trees():
            for node in ast.walk(tree):
                if isinstance(node, ast.BinOp) and isinstance(node.op, ast.Pow):
                    self.assertIn(getattr(node.right, "value", None), range(65), (name, node.lineno))

    def test_init_gives_back_nothing(self):
        for name, tree in trees():
            for node in ast.walk(tree):
                if isinstance(node, ast.FunctionDef) and node.name == "__init__":
                    self.assertFalse([part for part in ast.walk(node) if isinstance(part, ast.Return)], name)


class PythonsOwn(unittest.TestCase):
    def test_keywords(self):
        for name, tree in trees():
            for node in ast.walk(tree):
                if isinstance(node, ast.Call) and node.keywords:
                    self.assertIsInstance(node.func, ast.Name, (name, node.lineno))
                    for keyword in node.keywords:
                        self.assertIn(keyword.arg, KEYWORDS.get(node.func.id, ()), (name, node.lineno))

    def test_called_and_not_kept(self):
        for name, tree in trees():
            for node, parent in with_parents(tree):
                if isinstance(node, ast.Name) and node.id in BUILTINS:
                    at_call = isinstance(parent, ast.Call) and parent.func is node
                    beside = isinstance(parent, (ast.ClassDef, ast.ExceptHandler, ast.keyword))
                    self.assertTrue(at_call or beside or called(parent) == "isinstance", (name, node.lineno))

    def test_methods_are_called_where_they_stand(self):
        methods, values = methods_and_values()
        for name, tree in trees():
            for node, parent in with_parents(tree):
                if isinstance(node, ast.Attribute) and node.attr in (METHODS | methods) - values:
                    self.assertTrue(isinstance(parent, ast.Call) and parent.func is node, (name, node.lineno))

    def test_walked_on_the_spot(self):
        for name, tree in trees():
            for node, parent in with_parents(tree):
                by_name = isinstance(node, ast.Call) and isinstance(node.func, ast.Name) and node.func.id in WALKED_NAMES
                by_method = isinstance(node, ast.Call) and isinstance(node.func, ast.Attribute) \
                    and node.func.attr in WALKED_METHODS
                if by_name or by_method:
                    behind_in = isinstance(parent, (ast.For, ast.comprehension)) and parent.iter is node
                    first = called(parent) in WALKERS and parent.args[0] is node
                    alone = called(parent) in ("min", "max", "join") and parent.args == [node] and not parent.keywords
                    self.assertTrue(behind_in or first or alone, (name, node.lineno))

    def test_sets_are_not_kept(self):
        for name, tree in trees():
            for node, parent in with_parents(tree):
                if called(node) in ("set", "frozenset"):
                    straight = called(parent) in ("sorted", "len") and not parent.keywords
                    self.assertTrue(straight or isinstance(parent, (ast.Compare, ast.BinOp)), (name, node.lineno))


class OwnNames(unittest.TestCase):
    def test_no_name_is_a_method_and_a_value(self):
        methods, values = methods_and_values()
        self.assertEqual(methods & values, set())

    def test_methods_and_values_are_free_names(self):
        methods, values = methods_and_values()
        self.assertEqual((methods - DUNDERS) & (PYTHONS_OWN - METHODS - {"add", "discard"}), set())
        self.assertEqual(values & (PYTHONS_OWN - VALUE_NAMES), set())

    def test_no_local_is_called_like_an_import_or_a_class(self):
        for name, tree in trees():
            tops = {item.name for node in tree.body if isinstance(node, ast.ImportFrom) for item in node.names}
            tops |= {node.name for node in tree.body if isinstance(node, (ast.ClassDef, ast.FunctionDef))}
            inner = {node.id for node in ast.walk(tree) if isinstance(node, ast.Name) and isinstance(node.ctx, ast.Store)}
            inner |= {node.arg for node in ast.walk(tree) if isinstance(node, ast.arg)}
            self.assertEqual(tops & inner, set(), name)

    def test_names_of_the_top_are_bound_once_to_plain_values(self):
        for name, tree in trees():
            bound = [node.targets[0].id for node in tree.body if isinstance(node, ast.Assign)]
            bound += [node.name for node in tree.body if isinstance(node, (ast.ClassDef, ast.FunctionDef))]
            bound += [item.name for node in tree.body if isinstance(node, ast.ImportFrom) for item in node.names]
            self.assertEqual(len(bound), len(set(bound)), name)
            for node in tree.body:
                if isinstance(node, ast.Assign):
                    kinds = {part.__class__.__name__ for part in ast.walk(node.value)}
                    self.assertLessEqual(kinds, {"Constant", "List", "Tuple", "Dict", "Name", "Load"}, (name, node.lineno))


if __name__ == "__main__":
    unittest.main()
