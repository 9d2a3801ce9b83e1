"""Some of the rules of the language that a look at the files can check."""

import ast
import builtins
import unittest

from tests.test_package import sources

DOUBLE = ("__init__", "__eq__", "__repr__", "__str__", "__len__", "__enter__", "__exit__", "__call__", "__iter__")
OPERATORS = ("__iadd__", "__add__", "__and__", "__or__", "__bool__", "__contains__", "__getitem__")
BUILTIN_METHODS = {name for kind in (str, int, list, dict, set, bytes, tuple) for name in dir(kind)}
CALLED = {
    "len", "range", "enumerate", "zip", "min", "max", "sum", "abs", "sorted", "reversed", "int", "str", "bool", "bytes", "list",
    "tuple", "dict", "set", "isinstance", "ord", "repr", "any", "all", "divmod", "iter", "super", "type", "KeyError", "IndexError",
    "LookupError", "ValueError", "RuntimeError", "OverflowError", "TypeError", "property", "staticmethod", "classmethod", "True",
    "False", "None",
}
BUILTIN_CALLS = {
    "append", "bit_length", "clear", "copy", "count", "endswith", "extend", "find", "get", "index", "insert", "isalpha", "isascii", "isdigit", "islower", "items",
    "join", "keys", "partition", "pop", "remove", "replace", "setdefault", "split", "startswith", "strip", "update", "values", "__init__",
}
BARRED = (ast.GeneratorExp, ast.Global, ast.AsyncFunctionDef, ast.AnnAssign, ast.NamedExpr, ast.SetComp, ast.Try)


def trees():
    return {path: ast.parse(text) for path, text in sources().items()}


def nodes(kind):
    return [(path, node) for path, tree in trees().items() for node in ast.walk(tree) if isinstance(node, kind)]


def stored(tree):
    """The names of all variables, parameters and functions within functions."""
    found = [node.id for node in ast.walk(tree) if isinstance(node, ast.Name) and isinstance(node.ctx, ast.Store)]
    return found + [node.arg for node in ast.walk(tree) if isinstance(node, ast.arg)]


class NamesTest(unittest.TestCase):
    def test_no_name_is_that_of_a_builtin_or_begins_with_two_underscores(self):
        for path, tree in trees().items():
            defined = [node.name for node in ast.walk(tree) if isinstance(node, (ast.FunctionDef, ast.ClassDef))]
            for name in stored(tree) + [name for name in defined if name not in DOUBLE + OPERATORS]:
                self.assertFalse(hasattr(builtins, name), (path, name))
                self.assertFalse(name.startswith("__"), (path, name))

    def test_no_variable_has_the_name_of_an_import_or_a_class_of_its_file(self):
        for path, tree in trees().items():
            taken = [alias.name for node in tree.body if isinstance(node, ast.ImportFrom) for alias in node.names]
            taken += [node.name for node in tree.body if isinstance(node, ast.ClassDef)]
            for function in [node for node in ast.walk(tree) if isinstance(node, (ast.FunctionDef, ast.Lambda))]:
                self.assertEqual(set(stored(function)) & set(taken), set(), path)

    def test_no_name_is_bound_twice_and_each_import_is_used(self):
        for path, tree in trees().items():
            bound = [alias.name for node in tree.body if isinstance(node, ast.ImportFrom) for alias in node.names]
            used = {node.id for node in ast.walk(tree) if isinstance(node, ast.Name)}
            self.assertEqual(set(bound) - used, set(), path)
            bound += [node.name for node in tree.body if isinstance(node, (ast.FunctionDef, ast.ClassDef))]
            bound += [target.id for node in tree.body if isinstance(node, ast.Assign) for target in node.targets]
            self.assertEqual(len(bound), len(set(bound)), path)

    def test_only_known_builtins_are_used(self):
        for path, node in nodes(ast.Name):
            if hasattr(builtins, node.id):
                self.assertIn(node.id, CALLED, path)


class ClassesTest(unittest.TestCase):
    def methods(self):
        """The names of plain methods, of those with a decorator, and of attributes that are assigned."""
        plain, decorated = set(), {"property": set(), "classmethod": set(), "staticmethod": set()}
        for _, kind in nodes(ast.ClassDef):
            for node in kind.body:
                if isinstance(node, ast.FunctionDef):
                    for mark in node.decorator_list:
                        kind_of_mark = mark.id if isinstance(mark, ast.Name) else "property"
                        decorated.setdefault(kind_of_mark, set()).add(node.name)
                    if not node.decorator_list:
                        plain.add(node.name)
        attributes = {node.attr for _, node in nodes(ast.Attribute) if isinstance(node.ctx, ast.Store)}
        return plain, decorated, attributes

    def test_names_of_methods_properties_and_attributes(self):
        plain, decorated, attributes = self.methods()
        fixed = decorated["classmethod"] | decorated["staticmethod"]
        self.assertEqual(decorated["property"] & (plain | attributes | fixed | BUILTIN_METHODS), set())
        self.assertEqual(fixed & (plain | attributes | BUILTIN_METHODS), set())
        self.assertEqual(attributes & (plain | BUILTIN_METHODS), set())
        own = {name for name in plain if name not in DOUBLE + OPERATORS}
        self.assertEqual(own & BUILTIN_METHODS, set())
        self.assertEqual({name for name in plain if name.startswith("__")} - set(DOUBLE + OPERATORS), set())

    def test_methods_that_are_called_are_known(self):
        plain, decorated, _ = self.methods()
        known = plain | set().union(*decorated.values()) | BUILTIN_CALLS
        for path, node in nodes(ast.Call):
            if isinstance(node.func, ast.Attribute):
                self.assertIn(node.func.attr, known, (path, node.lineno))

    def test_attributes_that_are_read_are_assigned(self):
        plain, decorated, attributes = self.methods()
        known = plain | set().union(*decorated.values()) | BUILTIN_CALLS | attributes | {"setter"}
        for path, node in nodes(ast.Attribute):
            self.assertIn(node.attr, known, (path, node.lineno))

    def test_equality_first_asks_for_the_class(self):
        for path, node in nodes(ast.FunctionDef):
            if node.name == "__eq__":
                first = ast.unparse(node.body[0])
                self.assertTrue(first.startswith("if not isinstance(other, "), path)
            if node.name == "__len__":
                self.assertTrue(ast.unparse(node.body[-1]).startswith("return len("), path)


class StatementsTest(unittest.TestCase):
    def test_what_is_not_used(self):
        for path, node in nodes(BARRED):
            if isinstance(node, ast.Try):
                told = [ast.unparse(handler.type) for handler in node.handlers]
                own = ["ParseError", "InvalidNumber", "InvalidProgram", "InvalidSender", "InvalidServer", "InvalidRow", "TooMany"]
                self.assertIn(told, (["(InvalidRow, TooMany)"], own), path)
            else:
                self.fail((path, node.lineno))

    def test_no_sum_is_assigned_in_place(self):
        # A class has __iadd__.
        self.assertEqual(nodes(ast.AugAssign), [])

    def test_no_percent_sign_in_a_string(self):
        for path, node in nodes(ast.Constant):
            if isinstance(node.value, str):
                self.assertNotIn("%", node.value, path)

    def test_identity_is_for_none_true_and_false(self):
        for path, node in nodes(ast.Compare):
            for sign, other in zip(node.ops, node.comparators):
                if isinstance(sign, (ast.Is, ast.IsNot)):
                    of_a_kind = ast.unparse(node.left).startswith("type(") and ast.unparse(other) in ("int", "str", "bool", "list", "tuple", "dict")
                    self.assertTrue(isinstance(other, ast.Constant) or of_a_kind, (path, node.lineno))

    def test_views_are_iterated_at_once(self):
        for path, node in nodes(ast.Assign):
            told = ast.unparse(node.value)
            for end in (".items()", ".keys()", ".values()"):
                self.assertFalse(told.endswith(end), (path, node.lineno))

    def test_no_loop_changes_what_it_iterates_over_under_another_name(self):
        # A list that a loop changes never gets the name of what the loop goes over, nor the other way round.
        for path, function in nodes(ast.FunctionDef):
            shared = [
                {node.value.id, target.id} for node in ast.walk(function) if isinstance(node, ast.Assign) and isinstance(node.value, ast.Name)
                for target in node.targets if isinstance(target, ast.Name)]
            for loop in [node for node in ast.walk(function) if isinstance(node, ast.For)]:
                walked = {node.id for node in ast.walk(loop.iter) if isinstance(node, ast.Name)}
                if isinstance(loop.iter, ast.Call) and ast.unparse(loop.iter.func) in ("list", "range"):
                    walked = set()
                for name in self.changed_in(loop):
                    self.assertNotIn(name, walked, (path, loop.lineno))
                    for pair in shared:
                        self.assertFalse(name in pair and pair & walked, (path, loop.lineno))

    def changed_in(self, loop):
        """The names of what is changed in the rows of a loop."""
        found = set()
        for node in [node for row in loop.body for node in ast.walk(row)]:
            if isinstance(node, ast.Call) and isinstance(node.func, ast.Attribute) and isinstance(node.func.value, ast.Name):
                if node.func.attr in ("append", "extend", "pop", "insert", "remove", "clear", "update", "setdefault", "reverse"):
                    found.add(node.func.value.id)
            if isinstance(node, ast.Subscript) and not isinstance(node.ctx, ast.Load) and isinstance(node.value, ast.Name):
                found.add(node.value.id)
            # What is passed to a function as the first argument may be changed there.
            if isinstance(node, ast.Call) and isinstance(node.func, ast.Name) and node.func.id.startswith("keep") and node.args:
                found |= {name.id for name in node.args[:1] if isinstance(name, ast.Name)}
        return found

    def test_no_two_files_import_from_each_other(self):
        imports = {}
        for path, tree in trees().items():
            name = ".".join(path.parts[path.parts.index("skipahead", len(path.parts) - 3):])[:-3]
            imports[name] = {node.module for node in tree.body if isinstance(node, ast.ImportFrom)}
        def behind(name, seen):
            for other in imports.get(name, ()):
                if other not in seen:
                    seen.add(other)
                    behind(other, seen)
            return seen
        for name in imports:
            self.assertNotIn(name, behind(name, set()))
            self.assertTrue(imports[name] <= set(imports) | {"heapq", "math", "itertools", "collections"}, name)


if __name__ == "__main__":
    unittest.main()
