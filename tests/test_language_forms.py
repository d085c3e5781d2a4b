"""Those rules of the language that tell where a thing may stand: classes, errors, sets, what is iterated, defaults."""

import ast
import unittest

from tests.test_language import FILES, tree_of

FIRST_METHODS = set(
    "append clear copy count endswith extend find get index insert isalnum isalpha isdigit islower isspace isupper "
    "items join keys ljust lower lstrip partition pop remove replace reverse rfind rjust rpartition rsplit rstrip "
    "setdefault split splitlines startswith strip update upper values zfill bit_length add discard".split()
)
FREE_ATTRIBUTES = set("count index title find get join lower upper split strip copy add".split())
BUILTIN_ATTRIBUTES = {
    name for kind in (str, int, list, dict, set, bytes, tuple) for name in dir(kind) if not name.startswith("__")
}
BUILTIN_KEYWORDS = {
    "sorted": {"key", "reverse"}, "min": {"key", "default"}, "max": {"key", "default"}, "sum": {"start"},
    "enumerate": {"start"}, "zip": {"strict"},
}
BUILTINS = set(
    "len range enumerate zip min max sum abs sorted reversed int str bool list tuple dict set isinstance ord repr any "
    "all divmod".split()
)
ITERATED = ("zip", "enumerate", "reversed", "range")
ITERATED_METHODS = ("items", "keys", "values")
ITERATING = ("list", "tuple", "dict", "sorted", "sum", "any", "all", "enumerate", "zip", "min", "max")
DUNDERS = ("__eq__", "__repr__", "__str__", "__len__")
TREES = [(path, tree_of(path)) for path in FILES]


def parents_of(tree):
    return {child: node for node in ast.walk(tree) for child in ast.iter_child_nodes(node)}


def called_name(node):
    """The name that is called, or None."""
    return node.func.id if isinstance(node, ast.Call) and isinstance(node.func, ast.Name) else None


def is_plain_value(node, functions=()):
    if isinstance(node, ast.Constant):
        return isinstance(node.value, (int, str, bytes, bool, type(None)))
    if isinstance(node, ast.UnaryOp) and isinstance(node.op, ast.USub):
        return is_plain_value(node.operand)
    if isinstance(node, ast.BinOp):
        return is_plain_value(node.left) and is_plain_value(node.right)
    if isinstance(node, (ast.Tuple, ast.List)):
        return all(is_plain_value(part, functions) for part in node.elts)
    if isinstance(node, ast.Dict):
        return all(is_plain_value(part, functions) for part in node.keys + node.values)
    return isinstance(node, ast.Name) and node.id in functions


def classes_of(trees):
    return {node.name: node for path, tree in trees for node in tree.body if isinstance(node, ast.ClassDef)}


CLASSES = classes_of(TREES)


class Forms(unittest.TestCase):
    def each(self, kind):
        for path, tree in TREES:
            for node in ast.walk(tree):
                if isinstance(node, kind):
                    yield (path.name, node.lineno), node

    def test_module_level(self):
        for path, tree in TREES:
            functions = []
            for at, node in enumerate(tree.body):
                if isinstance(node, ast.FunctionDef):
                    functions.append(node.name)
                elif isinstance(node, ast.Assign):
                    self.assertTrue(is_plain_value(node.value, functions), (path, node.lineno))
                    self.assertEqual([type(target) for target in node.targets], [ast.Name])
                elif isinstance(node, ast.Expr):
                    self.assertTrue(at == 0 and isinstance(node.value, ast.Constant), (path, node.lineno))
                else:
                    self.assertIsInstance(node, (ast.ImportFrom, ast.ClassDef), (path, node.lineno))

    def test_imports_stand_at_the_top(self):
        for path, tree in TREES:
            kinds = [isinstance(node, ast.ImportFrom) for node in tree.body if not isinstance(node, ast.Expr)]
            self.assertEqual(kinds, sorted(kinds, reverse=True), path)

    def test_functions(self):
        for place, node in self.each(ast.FunctionDef):
            self.assertEqual(node.decorator_list, [], place)
            self.assertEqual(node.args.posonlyargs, [], place)
            for default in node.args.defaults:
                self.assertIsInstance(default, ast.Constant, place)

    def test_classes_stand_at_module_level_and_hold_methods(self):
        for place, node in self.each(ast.ClassDef):
            self.assertIn(node, CLASSES.values(), place)
            self.assertEqual(node.decorator_list, [], place)
            for part in node.body[1:]:
                self.assertIsInstance(part, ast.FunctionDef, place)
            names = [part.name for part in node.body[1:]]
            self.assertEqual(len(names), len(set(names)), place)

    def test_classes_are_called_and_asked_for_only(self):
        for path, tree in TREES:
            parents = parents_of(tree)
            for node in ast.walk(tree):
                if isinstance(node, ast.Name) and node.id in CLASSES:
                    around = parents[node]
                    if isinstance(around, ast.Tuple):
                        around = parents[around]
                    fits = isinstance(around, (ast.ClassDef, ast.ExceptHandler)) or (
                        isinstance(around, ast.Call) and (around.func == node or called_name(around) == "isinstance")
                    ) or (isinstance(around, ast.Attribute) and around.attr == "__init__")
                    self.assertTrue(fits, (path, node.lineno))

    def test_calls_of_classes_pass_what_they_take(self):
        for place, node in self.each(ast.Call):
            if called_name(node) in CLASSES:
                made = CLASSES[called_name(node)]
                own = [part for part in made.body if isinstance(part, ast.FunctionDef) and part.name == "__init__"]
                self.assertEqual(len(own), 1, place)
                most = len(own[0].args.args) - 1
                least = most - len(own[0].args.defaults)
                self.assertTrue(least <= len(node.args) + len(node.keywords) <= most, place)

    def test_errors(self):
        for place, node in self.each(ast.Raise):
            self.assertIn(called_name(node.exc), CLASSES, place)
            if node.cause is not None:
                self.assertIsNone(node.cause.value, place)
        for place, node in self.each(ast.ExceptHandler):
            caught = node.type.elts if isinstance(node.type, ast.Tuple) else [node.type]
            for kind in caught:
                self.assertIn(kind.id, CLASSES, place)
        for place, node in self.each(ast.Try):
            self.assertEqual(node.finalbody, [], place)

    def test_is_asks_for_none_true_and_false(self):
        for place, node in self.each(ast.Compare):
            for sign, asked in zip(node.ops, node.comparators):
                if isinstance(sign, (ast.Is, ast.IsNot)):
                    self.assertIn(getattr(asked, "value", 0), (None, True, False), place)

    def test_builtins_get_their_own_keywords(self):
        for place, node in self.each(ast.Call):
            keywords = {keyword.arg for keyword in node.keywords}
            if called_name(node) in BUILTINS:
                self.assertTrue(keywords <= BUILTIN_KEYWORDS.get(called_name(node), set()), place)
            if isinstance(node.func, ast.Attribute) and node.func.attr in FIRST_METHODS:
                self.assertEqual(keywords, set(), place)

    def test_builtins_and_methods_are_called_where_they_stand(self):
        methods = {part.name for node in CLASSES.values() for part in node.body if isinstance(part, ast.FunctionDef)}
        for path, tree in TREES:
            parents = parents_of(tree)
            for node in ast.walk(tree):
                if isinstance(node, ast.Name) and node.id in BUILTINS:
                    around = parents[node]
                    fits = isinstance(around, ast.Call) and (around.func == node or called_name(around) == "isinstance")
                    self.assertTrue(fits, (path, node.lineno))
                if isinstance(node, ast.Attribute) and node.attr in methods | FIRST_METHODS:
                    self.assertTrue(isinstance(parents[node], ast.Call) and parents[node].func == node, (path, node.lineno))

    def test_iterated_at_once(self):
        for path, tree in TREES:
            parents = parents_of(tree)
            for node in ast.walk(tree):
                method = isinstance(node, ast.Call) and isinstance(node.func, ast.Attribute) and node.func.attr
                if called_name(node) in ITERATED or method in ITERATED_METHODS:
                    around = parents[node]
                    fits = isinstance(around, (ast.For, ast.comprehension)) or called_name(around) in ITERATING
                    inside = called_name(node) == "range" and called_name(around) == "reversed"
                    self.assertTrue(fits or inside, (path, node.lineno))

    def test_sets(self):
        for path, tree in TREES:
            parents = parents_of(tree)
            for node in ast.walk(tree):
                if called_name(node) == "set" or isinstance(node, (ast.Set, ast.SetComp)):
                    around = parents[node]
                    fits = isinstance(around, ast.Compare) or called_name(around) in ("sorted", "len")
                    self.assertTrue(fits, (path, node.lineno))

    def test_what_a_loop_goes_over_is_not_changed_in_it(self):
        for place, node in self.each(ast.For):
            over = {ast.dump(part) for part in ast.walk(node.iter) if isinstance(part, (ast.Name, ast.Attribute))}
            for row in node.body:
                for part in ast.walk(row):
                    if isinstance(part, ast.Call) and isinstance(part.func, ast.Attribute) and part.func.attr in (
                        "append", "clear", "extend", "insert", "pop", "remove", "reverse", "setdefault", "update",
                    ):
                        self.assertNotIn(ast.dump(part.func.value), over, place)
                    if isinstance(part, ast.Subscript) and not isinstance(part.ctx, ast.Load):
                        self.assertNotIn(ast.dump(part.value), over, place)

    def test_names_of_methods_and_attributes(self):
        for node in CLASSES.values():
            for part in node.body:
                if isinstance(part, ast.FunctionDef):
                    self.assertNotIn(part.name, BUILTIN_ATTRIBUTES - FIRST_METHODS)
        for place, node in self.each(ast.Attribute):
            if isinstance(node.ctx, ast.Store):
                self.assertNotIn(node.attr, BUILTIN_ATTRIBUTES - FREE_ATTRIBUTES, place)
                self.assertNotIn(node.attr, ("args", "sort"), place)
                self.assertIsInstance(node.value, ast.Name, place)

    def test_double_underscore_methods(self):
        for node in CLASSES.values():
            for part in node.body:
                if not isinstance(part, ast.FunctionDef):
                    continue
                rows = list(ast.walk(part))
                if part.name == "__init__":
                    self.assertFalse(any(isinstance(row, ast.Return) for row in rows), node.name)
                if part.name in DUNDERS:
                    self.assertEqual([type(row) for row in part.body], [ast.Return], node.name)
                if part.name == "__len__":
                    self.assertEqual(called_name(part.body[0].value), "len")

    def test_powers_and_formats(self):
        for place, node in self.each(ast.BinOp):
            if isinstance(node.op, ast.Pow):
                self.assertIn(getattr(node.right, "value", None), range(65), place)
        for place, node in self.each(ast.FormattedValue):
            self.assertEqual((node.conversion, node.format_spec), (-1, None), place)


if __name__ == "__main__":
    unittest.main()
