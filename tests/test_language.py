"""Checks the package against those rules of LANGUAGE.md that can be seen in a single line or a single name."""

import ast
import builtins
import re
import unittest
from pathlib import Path

PACKAGE = Path(__file__).resolve().parent.parent / "spindlefit"
MODULES = [
    "errors", "limits", "shops", "exchanges", "settings", "service", "rings", "rows", "counting", "reach",
    "totals", "sightings", "changes", "floor", "texts", "sheet",
]
ALLOWED_BUILTINS = set(
    "len range enumerate zip min max sum abs sorted reversed int str bool list tuple dict set isinstance ord repr "
    "any all divmod iter next bytes frozenset Exception ValueError TypeError KeyError IndexError LookupError "
    "ZeroDivisionError ArithmeticError OverflowError RuntimeError NotImplementedError NotImplemented property "
    "staticmethod classmethod super".split()
)
ALLOWED_DOUBLE = {"__init__", "__eq__", "__repr__", "__len__"}
BARRED_WORDS = (
    "type typing typing_extensions enum Enum IntEnum StrEnum Flag IntFlag Generic Protocol ABC ABCMeta namedtuple "
    "NamedTuple TypedDict TYPE_CHECKING abstractmethod"
).split()
BARRED_PARTS = ["dataclass", "overload", "contextmanager"]
BARRED_NAMES = set("register mro elements open input version_info with_traceback add_note".split())
ALLOWED_METHODS = set(
    "append clear copy count endswith extend find get index insert isalnum isalpha isdigit islower isspace isupper "
    "items join keys ljust lower lstrip partition pop remove replace reverse rfind rjust rpartition rsplit rstrip "
    "setdefault split splitlines startswith strip update upper values zfill bit_length".split()
)
BARRED_NODES = (
    ast.Global, ast.AsyncFunctionDef, ast.AsyncFor, ast.AsyncWith, ast.Await, ast.Import, ast.Div, ast.MatMult,
)


def bound_names(tree):
    """Every name that the file gives to something, with its node."""
    for node in ast.walk(tree):
        if isinstance(node, (ast.FunctionDef, ast.ClassDef)):
            yield node.name, node
        elif isinstance(node, ast.arg):
            yield node.arg, node
        elif isinstance(node, ast.Name) and isinstance(node.ctx, ast.Store):
            yield node.id, node
        elif isinstance(node, ast.Attribute):
            yield node.attr, node
        elif isinstance(node, ast.alias):
            yield node.asname or node.name, node


class Language(unittest.TestCase):
    def setUp(self):
        self.files = sorted(PACKAGE.glob("*.py"))
        self.texts = {path.name: path.read_bytes().decode("ascii") for path in self.files}
        self.trees = {name: ast.parse(text) for name, text in self.texts.items()}

    def test_files(self):
        names = sorted(path.name for path in PACKAGE.iterdir() if path.name != "__pycache__")
        self.assertEqual(names, sorted(self.texts))
        self.assertIn("__init__.py", names)
        for module in MODULES:
            self.assertIn(module + ".py", names)
        for name in names:
            self.assertRegex(name, r"\A(__init__|[a-z][a-z0-9_]*)\.py\Z")

    def test_characters_and_sizes(self):
        for name, text in self.texts.items():
            lines = text.split("\n")
            self.assertEqual(re.findall(r"[^ -~\n]", text), [], name)
            self.assertLessEqual(len(lines), 400, name)
            self.assertLessEqual(max(len(line) for line in lines), 120, name)
            self.assertEqual([line for line in lines if line != line.rstrip()], [], name)
            for node in ast.walk(self.trees[name]):
                if isinstance(node, ast.FunctionDef):
                    self.assertLessEqual(node.end_lineno - node.lineno + 1, 40, (name, node.name))

    def test_barred_words(self):
        for name, text in self.texts.items():
            for word in BARRED_WORDS:
                self.assertIsNone(re.search(r"\b" + word + r"\b", text), (name, word))
            for part in BARRED_PARTS:
                self.assertNotIn(part, text, name)

    def test_imports_and_statements(self):
        for name, tree in self.trees.items():
            for node in ast.walk(tree):
                self.assertNotIsInstance(node, BARRED_NODES, name)
                if isinstance(node, ast.ImportFrom):
                    self.assertEqual(node.level, 0, name)
                    self.assertRegex(node.module, r"\Aspindlefit\.[a-z_]+\Z")
                    self.assertIn(node, tree.body, name)
                    self.assertNotIn("*", [alias.name for alias in node.names], name)

    def test_imports_name_the_file_that_defines(self):
        for tree in self.trees.values():
            for node in ast.walk(tree):
                if isinstance(node, ast.ImportFrom):
                    source = self.trees[node.module.split(".")[1] + ".py"]
                    defined = [part.name for part in source.body if isinstance(part, (ast.FunctionDef, ast.ClassDef))]
                    defined += [target.id for part in source.body if isinstance(part, ast.Assign)
                                for target in part.targets]
                    for alias in node.names:
                        self.assertIn(alias.name, defined)

    def test_names(self):
        for name, tree in self.trees.items():
            for bound, node in bound_names(tree):
                with self.subTest(name, bound=bound):
                    if bound not in ALLOWED_DOUBLE:
                        self.assertFalse(bound.startswith("_"))
                    self.assertNotIn(bound, BARRED_NAMES)
                    if not isinstance(node, (ast.FunctionDef, ast.Attribute)):
                        self.assertFalse(hasattr(builtins, bound))

    def test_no_local_name_hides_an_import_a_class_or_a_function(self):
        for name, tree in self.trees.items():
            outer = [part for part in tree.body if isinstance(part, (ast.FunctionDef, ast.ClassDef))]
            taken = [part.name for part in outer]
            taken += [alias.name for part in tree.body if isinstance(part, ast.ImportFrom) for alias in part.names]
            self.assertEqual(len(taken), len(set(taken)), name)
            for bound, node in bound_names(tree):
                if isinstance(node, ast.arg) or isinstance(node, ast.Name):
                    self.assertNotIn(bound, taken, name)

    def test_imports_go_one_way(self):
        sources = {name[:-3]: [node.module.split(".")[1] for node in tree.body if isinstance(node, ast.ImportFrom)]
                   for name, tree in self.trees.items()}
        done = []
        while len(done) < len(sources):
            ready = [name for name in sources if name not in done and set(sources[name]) <= set(done)]
            self.assertNotEqual(ready, [], sorted(set(sources) - set(done)))
            done += ready

    def test_builtins(self):
        for name, tree in self.trees.items():
            for node in ast.walk(tree):
                if isinstance(node, ast.Name) and hasattr(builtins, node.id):
                    self.assertIn(node.id, ALLOWED_BUILTINS, name)

    def test_values(self):
        for name, tree in self.trees.items():
            for node in ast.walk(tree):
                if isinstance(node, ast.Constant):
                    self.assertNotIsInstance(node.value, (float, complex), name)
                    if isinstance(node.value, str):
                        self.assertNotIn("%", node.value, name)

    def test_methods_and_attributes(self):
        classes = [node for tree in self.trees.values() for node in tree.body if isinstance(node, ast.ClassDef)]
        methods = {part.name for node in classes for part in node.body if isinstance(part, ast.FunctionDef)}
        assigned = {node.attr for tree in self.trees.values() for node in ast.walk(tree)
                    if isinstance(node, ast.Attribute) and isinstance(node.ctx, ast.Store)}
        self.assertEqual(methods & assigned, set())
        for kind in (str, int, list, dict, set, tuple, bytes):
            self.assertEqual([name for name in methods | assigned if hasattr(kind, name) and name[:2] != "__"], [])
        for name, tree in self.trees.items():
            called = [node.func for node in ast.walk(tree) if isinstance(node, ast.Call)]
            for function in called:
                if isinstance(function, ast.Attribute):
                    self.assertIn(function.attr, ALLOWED_METHODS | methods, name)
            for node in ast.walk(tree):
                if isinstance(node, ast.Attribute) and node not in called:
                    self.assertIn(node.attr, assigned, name)

    def test_lists_stand_where_a_class_has_its_own_equality(self):
        for name, tree in self.trees.items():
            for node in ast.walk(tree):
                self.assertNotIsInstance(node, ast.GeneratorExp, name)

    def test_only_own_errors_are_caught(self):
        own = {node.name for node in self.trees["errors.py"].body if isinstance(node, ast.ClassDef)}
        for name, tree in self.trees.items():
            for node in ast.walk(tree):
                if isinstance(node, ast.ExceptHandler):
                    kinds = node.type.elts if isinstance(node.type, ast.Tuple) else [node.type]
                    self.assertLessEqual({kind.id for kind in kinds}, own, name)

    def test_is_stands_only_with_none_true_and_false(self):
        for name, tree in self.trees.items():
            for node in ast.walk(tree):
                if isinstance(node, ast.Compare) and isinstance(node.ops[0], (ast.Is, ast.IsNot)):
                    right = node.comparators[0]
                    self.assertIsInstance(right, ast.Constant, name)
                    self.assertTrue(right.value is None or isinstance(right.value, bool), name)


if __name__ == "__main__":
    unittest.main()
