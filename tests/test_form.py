"""The form of the package: the rules of LANGUAGE.md that can be seen in the code."""

import ast
import builtins
import os
import re
import unittest

ROOT = os.path.dirname(os.path.dirname(os.path.abspath(__file__)))
PACKAGE = os.path.join(ROOT, "mirrorbook")

LIBRARY = {
    "heapq": {"heappush", "heappop", "heapify", "heapreplace", "heappushpop"},
    "math": {"gcd", "lcm", "isqrt", "comb", "perm", "factorial"},
    "itertools": {"product", "combinations", "permutations"},
}
BUILTINS = set(
    "len range enumerate zip min max sum abs sorted reversed int str bool list tuple dict set isinstance ord"
    " repr any all divmod pow map super classmethod staticmethod property Exception ValueError TypeError".split()
)
BUILTIN_METHODS = set(
    "append clear copy count endswith extend find get index insert isalnum isalpha isdigit islower isspace isupper"
    " items join keys ljust lower lstrip partition pop remove replace reverse rfind rjust rpartition rsplit rstrip"
    " setdefault split splitlines startswith strip update upper values zfill bit_length add discard".split()
)
SPECIAL = {"__init__", "__eq__", "__str__"}
# A class of the package has an `__eq__`, so `any`, `all`, `sum` and the like take lists.
BARRED_NODES = (ast.GeneratorExp, ast.Global, ast.AsyncFunctionDef, ast.AsyncFor, ast.Await, ast.Div, ast.MatMult)
BARRED_NAMES = set("register mro elements open input law version_info with_traceback add_note".split())


def files():
    return sorted(name for name in os.listdir(PACKAGE) if name != "__pycache__")


def source(name):
    with open(os.path.join(PACKAGE, name), encoding="utf-8") as file:
        return file.read()


def trees():
    return [(name, ast.parse(source(name))) for name in files()]


def nodes(kinds):
    return [(name, node) for name, tree in trees() for node in ast.walk(tree) if isinstance(node, kinds)]


def bound_names(function):
    """The parameters and the local variables of a function."""
    arguments = function.args
    found = {argument.arg for argument in arguments.posonlyargs + arguments.args + arguments.kwonlyargs}
    for node in ast.walk(function):
        if isinstance(node, ast.Name) and isinstance(node.ctx, ast.Store):
            found.add(node.id)
    return found


class Files(unittest.TestCase):
    def test_the_folder_has_plain_files_alone(self):
        for name in files():
            self.assertRegex(name, r"^[a-z_][a-z0-9_]*\.py$")

    def test_sizes_and_characters(self):
        for name in files():
            text = source(name)
            self.assertRegex(text, re.compile(r"\A[ -~\n]*\Z"), name)
            self.assertLess(len(text.splitlines()), 400, name)
            self.assertTrue(all(len(line) <= 120 for line in text.splitlines()), name)

    def test_functions_have_at_most_forty_lines(self):
        for name, node in nodes(ast.FunctionDef):
            self.assertLessEqual(node.end_lineno - node.lineno + 1, 40, (name, node.name))

    def test_module_level(self):
        allowed = (ast.ImportFrom, ast.FunctionDef, ast.ClassDef, ast.Assign)
        for name, tree in trees():
            for at, node in enumerate(tree.body):
                docstring = at == 0 and isinstance(node, ast.Expr) and isinstance(node.value, ast.Constant)
                self.assertTrue(docstring or isinstance(node, allowed), (name, node.lineno))
                if isinstance(node, ast.Assign):
                    ast.literal_eval(node.value)

    def test_names_are_bound_once(self):
        for name, tree in trees():
            bound = []
            for node in tree.body:
                if isinstance(node, ast.ImportFrom):
                    bound += [alias.name for alias in node.names]
                elif isinstance(node, ast.Assign):
                    bound += [target.id for target in node.targets]
                elif isinstance(node, (ast.FunctionDef, ast.ClassDef)):
                    bound.append(node.name)
            self.assertEqual(len(bound), len(set(bound)), name)


class Imports(unittest.TestCase):
    def test_what_is_imported(self):
        for name, node in nodes((ast.Import, ast.ImportFrom)):
            self.assertIsInstance(node, ast.ImportFrom, name)
            self.assertEqual(node.level, 0, name)
            self.assertTrue(all(alias.asname is None for alias in node.names), name)
            if node.module in LIBRARY:
                self.assertLessEqual({alias.name for alias in node.names}, LIBRARY[node.module])
            else:
                self.assert_defined(node)

    def assert_defined(self, node):
        package, file = node.module.split(".")
        self.assertEqual(package, "mirrorbook")
        defined = set()
        for statement in ast.parse(source(file + ".py")).body:
            if isinstance(statement, (ast.FunctionDef, ast.ClassDef)):
                defined.add(statement.name)
            elif isinstance(statement, ast.Assign):
                defined.add(statement.targets[0].id)
        self.assertLessEqual({alias.name for alias in node.names}, defined)

    def test_no_two_files_import_from_each_other(self):
        wanted = {name[:-3]: set() for name in files()}
        for name, node in nodes(ast.ImportFrom):
            if node.module not in LIBRARY:
                wanted[name[:-3]].add(node.module.split(".")[1])
        while wanted:
            ready = [name for name, others in wanted.items() if not others & set(wanted)]
            self.assertTrue(ready, wanted)
            for name in ready:
                del wanted[name]

    def test_imports_are_used(self):
        for name, tree in trees():
            used = {node.id for node in ast.walk(tree) if isinstance(node, ast.Name)}
            for node in tree.body:
                if isinstance(node, ast.ImportFrom):
                    self.assertLessEqual({alias.name for alias in node.names}, used, name)


class Names(unittest.TestCase):
    def test_no_local_name_is_that_of_a_class_or_import(self):
        for name, tree in trees():
            barred = {node.name for node in tree.body if isinstance(node, ast.ClassDef)}
            for node in tree.body:
                if isinstance(node, ast.ImportFrom):
                    barred |= {alias.name for alias in node.names}
            for node in ast.walk(tree):
                if isinstance(node, ast.FunctionDef):
                    self.assertFalse(bound_names(node) & barred, (name, node.name))

    def test_no_name_is_that_of_a_builtin(self):
        barred = set(dir(builtins)) | BARRED_NAMES
        for name, node in nodes((ast.FunctionDef, ast.ClassDef)):
            self.assertNotIn(node.name, barred, name)
        for name, node in nodes(ast.FunctionDef):
            self.assertFalse(bound_names(node) & barred, (name, node.name))

    def test_builtins_that_are_used(self):
        every = set(dir(builtins))
        for name, node in nodes(ast.Name):
            if node.id in every:
                self.assertIn(node.id, BUILTINS, (name, node.lineno))

    def test_methods_that_are_called(self):
        own = {node.name for _, node in nodes(ast.FunctionDef)}
        for name, node in nodes(ast.Call):
            if isinstance(node.func, ast.Attribute):
                self.assertIn(node.func.attr, BUILTIN_METHODS | own, (name, node.lineno))

    def test_double_underscores(self):
        for name, node in nodes(ast.FunctionDef):
            if node.name.startswith("__"):
                self.assertIn(node.name, SPECIAL, name)
        for name, node in nodes(ast.Attribute):
            if node.attr.startswith("__"):
                self.assertEqual(node.attr, "__init__", name)

    def test_the_variable_that_is_not_read(self):
        for name, node in nodes(ast.Name):
            if node.id == "_":
                self.assertIsInstance(node.ctx, ast.Store, name)


class Statements(unittest.TestCase):
    def test_what_does_not_occur(self):
        for name, node in nodes(BARRED_NODES):
            self.fail(f"{type(node).__name__} in line {node.lineno} of {name}")

    def test_decorators(self):
        for name, node in nodes((ast.FunctionDef, ast.ClassDef)):
            for decorator in node.decorator_list:
                self.assertIn(decorator.id, ("classmethod", "staticmethod", "property"), name)

    def test_powers_have_literal_exponents(self):
        for name, node in nodes(ast.BinOp):
            if isinstance(node.op, ast.Pow):
                self.assertIsInstance(node.right, ast.Constant, (name, node.lineno))

    def test_identity_is_asked_of_none_alone(self):
        for name, node in nodes(ast.Compare):
            for operator, right in zip(node.ops, node.comparators):
                if isinstance(operator, (ast.Is, ast.IsNot)):
                    self.assertIsInstance(right, ast.Constant, (name, node.lineno))

    def test_strings_and_numbers(self):
        for name, node in nodes(ast.Constant):
            self.assertNotIsInstance(node.value, (float, complex, bytes), name)
            if isinstance(node.value, str):
                self.assertNotIn("%", node.value, name)
        for name in files():
            self.assertFalse(re.search(r"\\[^nt\\'\"]", source(name)), name)

    def test_what_is_iterated_is_not_changed(self):
        for name, node in nodes(ast.For):
            held = {part.id for part in ast.walk(node.iter) if isinstance(part, ast.Name)}
            for part in ast.walk(ast.Module(node.body, [])):
                if isinstance(part, ast.Call) and isinstance(part.func, ast.Attribute):
                    if part.func.attr in ("append", "pop", "extend", "insert", "remove", "clear", "update"):
                        self.assertNotIn(getattr(part.func.value, "id", None), held, (name, node.lineno))
                if isinstance(part, ast.Subscript) and isinstance(part.ctx, (ast.Store, ast.Del)):
                    self.assertNotIn(getattr(part.value, "id", None), held, (name, node.lineno))

    def test_views_and_ranges_are_iterated_at_once(self):
        for name, node in nodes((ast.Assign, ast.Return)):
            value = node.value
            if isinstance(value, ast.Call) and isinstance(value.func, ast.Name):
                self.assertNotIn(value.func.id, ("zip", "enumerate", "reversed", "map", "set"), (name, node.lineno))


if __name__ == "__main__":
    unittest.main()
