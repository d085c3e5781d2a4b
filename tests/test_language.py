"""Those rules of the language that can be seen file by file: what is imported, used and named, and how long it is."""

import ast
import builtins
import re
import unittest
from pathlib import Path

PACKAGE = Path(__file__).resolve().parent.parent / "weighrow"
FILES = sorted(path for path in PACKAGE.rglob("*") if path.is_file() and "__pycache__" not in path.parts)
BUILTINS = set(
    "len range enumerate zip min max sum abs sorted reversed int str bool bytes list tuple dict set frozenset "
    "isinstance ord repr any all divmod iter next super property staticmethod classmethod "
    "Exception ValueError TypeError KeyError IndexError LookupError ZeroDivisionError ArithmeticError OverflowError "
    "RuntimeError NotImplementedError AttributeError StopIteration NotImplemented".split()
)
DUNDERS = set("__init__ __eq__ __repr__ __str__ __len__ __enter__ __exit__ __call__ __iter__".split())
BARRED_WORDS = re.compile(
    r"\b(type|typing|typing_extensions|enum|Enum|IntEnum|StrEnum|Flag|IntFlag|Generic|Protocol|ABC|ABCMeta|namedtuple"
    r"|NamedTuple|TypedDict|TYPE_CHECKING|abstractmethod)\b|dataclass|overload|contextmanager"
)
BARRED_NAMES = set(
    "register mro elements open input version_info with_traceback add_note format format_map sort eval exec type id "
    "vars dir help quit exit compile globals locals getattr setattr hasattr delattr chr print".split()
)
BARRED_NODES = (
    ast.Import, ast.Global, ast.AsyncFunctionDef, ast.AsyncFor, ast.AsyncWith, ast.Await, ast.Div, ast.MatMult,
    ast.GeneratorExp,
)


METHODS = set(
    "append clear copy count endswith extend find get index insert isalnum isalpha isdigit islower isspace isupper "
    "items join keys ljust lower lstrip partition pop remove replace reverse rfind rjust rpartition rsplit rstrip "
    "setdefault split splitlines startswith strip update upper values zfill bit_length isascii removeprefix".split()
)


def tree_of(path):
    return ast.parse(path.read_text())


def names_bound(tree):
    for node in ast.walk(tree):
        if isinstance(node, (ast.FunctionDef, ast.ClassDef)):
            yield node.name
        if isinstance(node, ast.Name) and isinstance(node.ctx, ast.Store):
            yield node.id
        if isinstance(node, ast.arg):
            yield node.arg
        if isinstance(node, ast.alias):
            yield node.name


def own_names(tree, kinds):
    """Names of methods, or of attributes that are assigned, in the classes of a file."""
    for node in ast.walk(tree):
        if isinstance(node, ast.ClassDef) and "method" in kinds:
            yield from (part.name for part in node.body if isinstance(part, ast.FunctionDef))
        if isinstance(node, ast.Attribute) and isinstance(node.ctx, ast.Store) and "attribute" in kinds:
            yield node.attr


def module_names(tree):
    """Each name that is bound at module level, as often as it is."""
    for node in tree.body:
        if isinstance(node, ast.ImportFrom):
            yield from (alias.asname or alias.name for alias in node.names)
        if isinstance(node, (ast.FunctionDef, ast.ClassDef)):
            yield node.name
        if isinstance(node, ast.Assign):
            yield from (target.id for target in node.targets)


def local_names(tree):
    """Each name that is bound inside a function."""
    for node in ast.walk(tree):
        if isinstance(node, (ast.FunctionDef, ast.Lambda)):
            for part in ast.walk(node):
                if isinstance(part, ast.arg):
                    yield part.arg
                if isinstance(part, ast.Name) and isinstance(part.ctx, ast.Store):
                    yield part.id


def imports_of(tree):
    """Pairs of the file that is imported from and the name."""
    for node in tree.body:
        if isinstance(node, ast.ImportFrom):
            yield from ((node.module.split(".")[1], alias.name) for alias in node.names)


class Language(unittest.TestCase):
    def test_files(self):
        self.assertIn(PACKAGE / "__init__.py", FILES)
        for path in FILES:
            self.assertRegex(path.name, r"^[a-z_][a-z0-9_]*\.py$")

    def test_characters_and_sizes(self):
        for path in FILES:
            text = path.read_text()
            self.assertIsNone(re.search(r"[^ -~\n]", text), path)
            self.assertLessEqual(len(text.splitlines()), 400, path)
            self.assertLessEqual(max(map(len, text.splitlines())), 120, path)
            for node in ast.walk(tree_of(path)):
                if isinstance(node, ast.FunctionDef):
                    self.assertLessEqual(node.end_lineno - node.lineno + 1, 40, (path, node.name))

    def test_words(self):
        for path in FILES:
            self.assertIsNone(BARRED_WORDS.search(path.read_text()), path)

    def test_imports(self):
        for path in FILES:
            for node in ast.walk(tree_of(path)):
                if isinstance(node, ast.ImportFrom):
                    self.assertEqual((node.level, node.module.split(".")[0]), (0, "weighrow"), path)
                    self.assertTrue((PACKAGE / (node.module.split(".")[1] + ".py")).exists(), node.module)

    def test_imports_name_the_file_that_defines_them(self):
        for path in FILES:
            for module, name in imports_of(tree_of(path)):
                tree = tree_of(PACKAGE / (module + ".py"))
                self.assertIn(name, set(module_names(tree)) - {told for file, told in imports_of(tree)}, (path, module))

    def test_no_file_imports_itself_by_way_of_others(self):
        ahead = {path.stem: {module for module, name in imports_of(tree_of(path))} for path in FILES}
        while ahead:
            free = [module for module in ahead if not ahead[module] & set(ahead)]
            self.assertNotEqual(free, [], ahead)
            for module in free:
                del ahead[module]

    def test_each_import_is_used(self):
        for path in FILES:
            tree = tree_of(path)
            used = {node.id for node in ast.walk(tree) if isinstance(node, ast.Name)}
            self.assertEqual({name for module, name in imports_of(tree)} - used, set(), path)

    def test_names_are_bound_once_and_not_hidden(self):
        for path in FILES:
            tree = tree_of(path)
            bound = list(module_names(tree))
            self.assertEqual(len(bound), len(set(bound)), path)
            classes = {node.name for node in tree.body if isinstance(node, ast.ClassDef)}
            imported = {name for module, name in imports_of(tree)}
            self.assertEqual(set(local_names(tree)) & (classes | imported), set(), path)

    def test_methods_and_attributes_are_known(self):
        trees = [tree_of(path) for path in FILES]
        own = {name for tree in trees for name in own_names(tree, ("method", "attribute"))}
        for path, tree in zip(FILES, trees):
            asked = {node.attr for node in ast.walk(tree) if isinstance(node, ast.Attribute)}
            self.assertEqual(asked - own - METHODS, set(), path)

    def test_statements_and_expressions(self):
        for path in FILES:
            for node in ast.walk(tree_of(path)):
                self.assertNotIsInstance(node, BARRED_NODES, path)
                if isinstance(node, ast.Constant):
                    self.assertNotIsInstance(node.value, (float, complex), path)
                    self.assertNotIn("%", str(node.value), path)

    def test_names(self):
        for path in FILES:
            bound = set(names_bound(tree_of(path)))
            self.assertEqual([name for name in bound if name.startswith("_") and name not in DUNDERS], [], path)
            self.assertEqual(bound & (set(dir(builtins)) | BARRED_NAMES), set(), path)

    def test_builtins(self):
        for path in FILES:
            used = {node.id for node in ast.walk(tree_of(path)) if isinstance(node, ast.Name)}
            self.assertEqual((used & set(dir(builtins))) - BUILTINS, set(), path)

    def test_no_name_is_a_method_and_an_attribute(self):
        trees = [tree_of(path) for path in FILES]
        methods = {name for tree in trees for name in own_names(tree, ("method",))}
        attributes = {name for tree in trees for name in own_names(tree, ("attribute",))}
        self.assertEqual(methods & attributes, set())
        self.assertEqual(attributes & BARRED_NAMES, set())


if __name__ == "__main__":
    unittest.main()
