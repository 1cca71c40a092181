"""The form of the package: the rules of LANGUAGE.md that can be seen in the code."""

import ast
import builtins
import os
import re
import unittest

ROOT = os.path.dirname(os.path.dirname(os.path.abspath(__file__)))
PACKAGE = os.path.join(ROOT, "mirrorbook")

LIBRARY = {
    "heapq": {"heappush", "heappop", "heapify", "heapreplace", "heappushpop"},
    "math": {"gcd", "lcm", "isqrt", "comb", "perm", "factorial"},
    "itertools": {"product", "combinations", "permutations"},
}
BUILTINS = set(
    "len range enumerate zip min max sum abs sorted reversed int str bool list tuple dict set isinstance ord"
    " repr any all divmod pow map super classmethod staticmethod property Exception ValueError TypeError".split()
)
BUILTIN_METHODS = set(
    "append clear copy count endswith extend find get index insert isalnum isalpha isdigit islower isspace isupper"
    " items join keys ljust lower lstrip partition pop remove replace reverse rfind rjust rpartition rsplit rstrip"
    " setdefault split splitlines startswith strip update upper values zfill bit_length add discard".split()
)
SPECIAL = {"__init__", "__eq__", "__str__"}
# A class of the package has an `__eq__`, so `any`, `all`, `sum` and the like take lists.
BARRED_NODES = (ast.GeneratorExp, ast.Global, ast.AsyncFunctionDef, ast.AsyncFor, ast.Await, ast.Div, ast.MatMult)
BARRED_NAMES = set("register mro elements open input law version_info with_traceback add_note".split())
BARRED_WORDS = (
    "type typing typing_extensions enum Enum IntEnum StrEnum Flag IntFlag Generic Protocol ABC ABCMeta namedtuple"
    " NamedTuple TypedDict TYPE_CHECKING abstractmethod dataclass overload contextmanager"
).split()
DOCUMENTED = (ast.Module, ast.FunctionDef, ast.ClassDef)
# What is made on the spot, and what takes it there.
AT_ONCE = {"range", "zip", "enumerate", "reversed", "map"}
TAKERS = set("list tuple dict sorted sum any all enumerate zip min max reversed len product combinations".split())
CHANGING = {"append", "clear", "extend", "insert", "pop", "remove", "reverse", "setdefault", "update", "sort"}


def files():
    return sorted(name for name in os.listdir(PACKAGE) if name != "__pycache__")


def source(name):
    with open(os.path.join(PACKAGE, name), encoding="utf-8") as file:
        return file.read()


def trees():
    return [(name, ast.parse(source(name))) for name in files()]


def nodes(kinds):
    return [(name, node) for name, tree in trees() for node in ast.walk(tree) if isinstance(node, kinds)]


def bound_names(function):
    """The parameters and the local variables of a function."""
    arguments = function.args
    found = {argument.arg for argument in arguments.posonlyargs + arguments.args + arguments.kwonlyargs}
    for node in ast.walk(function):
        if isinstance(node, ast.Name) and isinstance(node.ctx, ast.Store):
            found.add(node.id)
    return found


def named(node):
    return node.id if isinstance(node, ast.Name) else None


class Files(unittest.TestCase):
    def test_the_folder_has_plain_files_alone(self):
        for name in files():
            self.assertRegex(name, r"^[a-z_][a-z0-9_]*\.py$")

    def test_sizes_and_characters(self):
        for name in files():
            text = source(name)
            self.assertRegex(text, re.compile(r"\A[ -~\n]*\Z"), name)
            self.assertLess(len(text.splitlines()), 400, name)
            self.assertTrue(all(len(line) <= 120 for line in text.splitlines()), name)

    def test_functions_have_at_most_forty_lines(self):
        for name, node in nodes(ast.FunctionDef):
            self.assertLessEqual(node.end_lineno - node.lineno + 1, 40, (name, node.name))

    def test_module_level(self):
        allowed = (ast.ImportFrom, ast.FunctionDef, ast.ClassDef, ast.Assign)
        for name, tree in trees():
            for at, node in enumerate(tree.body):
                docstring = at == 0 and isinstance(node, ast.Expr) and isinstance(node.value, ast.Constant)
                self.assertTrue(docstring or isinstance(node, allowed), (name, node.lineno))
                if isinstance(node, ast.Assign):
                    ast.literal_eval(node.value)

    def test_names_are_bound_once(self):
        for name, tree in trees():
            bound = []
            for node in tree.body:
                if isinstance(node, ast.ImportFrom):
                    bound += [alias.name for alias in node.names]
                elif isinstance(node, ast.Assign):
                    bound += [target.id for target in node.targets]
                elif isinstance(node, (ast.FunctionDef, ast.ClassDef)):
                    bound.append(node.name)
            self.assertEqual(len(bound), len(set(bound)), name)


class Classes(unittest.TestCase):
    def test_no_name_is_a_method_and_an_attribute(self):
        for name, node in nodes(ast.ClassDef):
            methods = {part.name for part in node.body if isinstance(part, ast.FunctionDef)}
            own = {
                part.attr for part in ast.walk(node) if isinstance(part, ast.Attribute) and named(part.value) == "self"
            }
            stored = {
                part.attr
                for part in ast.walk(node)
                if isinstance(part, ast.Attribute) and isinstance(part.ctx, ast.Store)
            }
            self.assertFalse(methods & stored, (name, node.name))
            self.assertLessEqual(own, methods | stored, (name, node.name))

    def test_attributes_are_assigned_by_some_class(self):
        stored = {node.attr for _, node in nodes(ast.Attribute) if isinstance(node.ctx, ast.Store)}
        known = stored | BUILTIN_METHODS | {node.name for _, node in nodes(ast.FunctionDef)} | {"__init__"}
        for name, node in nodes(ast.Attribute):
            self.assertIn(node.attr, known, (name, node.lineno))

    def test_comparing_and_showing_change_nothing(self):
        for name, node in nodes(ast.FunctionDef):
            if node.name in ("__eq__", "__str__"):
                self.assertIsInstance(node.body[-1], ast.Return, name)
                for part in ast.walk(node):
                    self.assertNotIsInstance(part, (ast.Assign, ast.AugAssign, ast.Delete), (name, node.lineno))
                    if isinstance(part, ast.Attribute):
                        self.assertNotIn(part.attr, CHANGING, (name, node.lineno))

    def test_classes_are_not_kept(self):
        classes = {node.name for _, node in nodes(ast.ClassDef)}
        for name, tree in trees():
            fit = set()
            for node in ast.walk(tree):
                if isinstance(node, ast.Call):
                    fit.add(node.func)
                    if named(node.func) == "isinstance":
                        fit.add(node.args[1])
                elif isinstance(node, ast.ClassDef):
                    fit.update(node.bases)
                elif isinstance(node, ast.ExceptHandler):
                    fit.add(node.type)
                elif isinstance(node, ast.Attribute):
                    fit.add(node.value)
            for node in ast.walk(tree):
                if named(node) in classes:
                    self.assertIn(node, fit, (name, node.lineno))


class Imports(unittest.TestCase):
    def test_what_is_imported(self):
        for name, node in nodes((ast.Import, ast.ImportFrom)):
            self.assertIsInstance(node, ast.ImportFrom, name)
            self.assertEqual(node.level, 0, name)
            self.assertTrue(all(alias.asname is None for alias in node.names), name)
            if node.module in LIBRARY:
                self.assertLessEqual({alias.name for alias in node.names}, LIBRARY[node.module])
            else:
                self.assert_defined(node)

    def assert_defined(self, node):
        package, file = node.module.split(".")
        self.assertEqual(package, "mirrorbook")
        defined = set()
        for statement in ast.parse(source(file + ".py")).body:
            if isinstance(statement, (ast.FunctionDef, ast.ClassDef)):
                defined.add(statement.name)
            elif isinstance(statement, ast.Assign):
                defined.add(statement.targets[0].id)
        self.assertLessEqual({alias.name for alias in node.names}, defined)

    def test_no_two_files_import_from_each_other(self):
        wanted = {name[:-3]: set() for name in files()}
        for name, node in nodes(ast.ImportFrom):
            if node.module not in LIBRARY:
                wanted[name[:-3]].add(node.module.split(".")[1])
        while wanted:
            ready = [name for name, others in wanted.items() if not others & set(wanted)]
            self.assertTrue(ready, wanted)
            for name in ready:
                del wanted[name]

    def test_imports_are_used(self):
        for name, tree in trees():
            used = {node.id for node in ast.walk(tree) if isinstance(node, ast.Name)}
            for node in tree.body:
                if isinstance(node, ast.ImportFrom):
                    self.assertLessEqual({alias.name for alias in node.names}, used, name)


class Names(unittest.TestCase):
    def test_no_local_name_is_that_of_a_class_or_import(self):
        for name, tree in trees():
            barred = {node.name for node in tree.body if isinstance(node, ast.ClassDef)}
            for node in tree.body:
                if isinstance(node, ast.ImportFrom):
                    barred |= {alias.name for alias in node.names}
            for node in ast.walk(tree):
                if isinstance(node, ast.FunctionDef):
                    self.assertFalse(bound_names(node) & barred, (name, node.name))

    def test_no_name_is_that_of_a_builtin(self):
        barred = set(dir(builtins)) | BARRED_NAMES
        for name, node in nodes((ast.FunctionDef, ast.ClassDef)):
            self.assertNotIn(node.name, barred, name)
        for name, node in nodes(ast.FunctionDef):
            self.assertFalse(bound_names(node) & barred, (name, node.name))

    def test_builtins_that_are_used(self):
        every = set(dir(builtins))
        for name, node in nodes(ast.Name):
            if node.id in every:
                self.assertIn(node.id, BUILTINS, (name, node.lineno))

    def test_methods_that_are_called(self):
        own = {node.name for _, node in nodes(ast.FunctionDef)}
        for name, node in nodes(ast.Call):
            if isinstance(node.func, ast.Attribute):
                self.assertIn(node.func.attr, BUILTIN_METHODS | own, (name, node.lineno))

    def test_double_underscores(self):
        for name, node in nodes(ast.FunctionDef):
            if node.name.startswith("__"):
                self.assertIn(node.name, SPECIAL, name)
        for name, node in nodes(ast.Attribute):
            if node.attr.startswith("__"):
                self.assertEqual(node.attr, "__init__", name)

    def test_the_variable_that_is_not_read(self):
        for name, node in nodes(ast.Name):
            if node.id == "_":
                self.assertIsInstance(node.ctx, ast.Store, name)


class Statements(unittest.TestCase):
    def test_what_does_not_occur(self):
        for name, node in nodes(BARRED_NODES):
            self.fail(f"{type(node).__name__} in line {node.lineno} of {name}")

    def test_decorators(self):
        for name, node in nodes((ast.FunctionDef, ast.ClassDef)):
            for decorator in node.decorator_list:
                self.assertIn(decorator.id, ("classmethod", "staticmethod", "property"), name)

    def test_powers_have_literal_exponents(self):
        for name, node in nodes(ast.BinOp):
            if isinstance(node.op, ast.Pow):
                self.assertIsInstance(node.right, ast.Constant, (name, node.lineno))

    def test_identity_is_asked_of_none_alone(self):
        for name, node in nodes(ast.Compare):
            for operator, right in zip(node.ops, node.comparators):
                if isinstance(operator, (ast.Is, ast.IsNot)):
                    self.assertIsInstance(right, ast.Constant, (name, node.lineno))

    def test_strings_and_numbers(self):
        for name, node in nodes(ast.Constant):
            self.assertNotIsInstance(node.value, (float, complex, bytes), name)
            if isinstance(node.value, str):
                self.assertNotIn("%", node.value, name)
        for name in files():
            self.assertFalse(re.search(r"\\[^nt\\'\"]", source(name)), name)

    def test_what_is_iterated_is_not_changed(self):
        for name, node in nodes(ast.For):
            held = {part.id for part in ast.walk(node.iter) if isinstance(part, ast.Name)}
            for part in ast.walk(ast.Module(node.body, [])):
                if isinstance(part, ast.Call) and isinstance(part.func, ast.Attribute):
                    if part.func.attr in ("append", "pop", "extend", "insert", "remove", "clear", "update"):
                        self.assertNotIn(getattr(part.func.value, "id", None), held, (name, node.lineno))
                if isinstance(part, ast.Subscript) and isinstance(part.ctx, (ast.Store, ast.Del)):
                    self.assertNotIn(getattr(part.value, "id", None), held, (name, node.lineno))

    def test_what_is_made_on_the_spot_is_iterated_there(self):
        for name, tree in trees():
            fit = set()
            for node in ast.walk(tree):
                if isinstance(node, (ast.For, ast.comprehension)):
                    fit.add(node.iter)
                elif isinstance(node, ast.Call) and isinstance(node.func, ast.Name) and node.func.id in TAKERS:
                    fit.update(node.args)
                elif isinstance(node, ast.Call) and isinstance(node.func, ast.Attribute) and node.func.attr == "join":
                    self.assertIsInstance(node.func.value, ast.Constant, (name, node.lineno))
                    fit.update(node.args)
                elif isinstance(node, ast.Compare) and isinstance(node.ops[0], (ast.In, ast.NotIn)):
                    fit.update(node.comparators)
                elif isinstance(node, ast.Assign) and isinstance(node.value, ast.Call):
                    if isinstance(node.value.func, ast.Name) and node.value.func.id in ("range", "map"):
                        fit.add(node.value)
            for node in ast.walk(tree):
                if isinstance(node, ast.Call) and isinstance(node.func, ast.Name) and node.func.id in AT_ONCE:
                    self.assertIn(node, fit, (name, node.lineno))
                elif isinstance(node, ast.Call) and isinstance(node.func, ast.Attribute):
                    if node.func.attr in ("items", "keys", "values"):
                        self.assertIn(node, fit, (name, node.lineno))

    def test_stars_stand_before_names_alone(self):
        for name, node in nodes(ast.Call):
            for part in node.args:
                if isinstance(part, ast.Starred):
                    self.assertIsInstance(part.value, (ast.Name, ast.Attribute), (name, node.lineno))
            for part in node.keywords:
                self.assertIsNotNone(part.arg, (name, node.lineno))

    def test_lambdas_stand_alone_on_their_lines(self):
        lines = [(name, node.lineno) for name, node in nodes(ast.Lambda)]
        self.assertEqual(len(lines), len(set(lines)))

    def test_methods_of_values_are_called_without_keywords(self):
        for name, node in nodes(ast.Call):
            if isinstance(node.func, ast.Attribute) and node.func.attr in BUILTIN_METHODS:
                self.assertEqual(node.keywords, [], (name, node.lineno))

    def test_words_that_do_not_occur(self):
        for name, tree in trees():
            docstrings = [ast.get_docstring(node, False) for node in ast.walk(tree) if isinstance(node, DOCUMENTED)]
            for node in ast.walk(tree):
                text = {ast.Name: "id", ast.Attribute: "attr", ast.arg: "arg", ast.Constant: "value"}.get(type(node))
                found = getattr(node, text) if text else ""
                if isinstance(found, str) and found not in docstrings:
                    self.assertFalse(set(re.findall("[A-Za-z_]+", found)) & set(BARRED_WORDS), (name, found))

    def test_sets_are_stored_nowhere(self):
        for name, node in nodes((ast.Assign, ast.Return)):
            self.assertNotIsInstance(node.value, (ast.Set, ast.SetComp), (name, node.lineno))

    def test_library_names_are_called_by_position(self):
        for name, tree in trees():
            taken = set()
            for node in tree.body:
                if isinstance(node, ast.ImportFrom) and node.module in LIBRARY:
                    taken |= {alias.name for alias in node.names}
            called = [node for node in ast.walk(tree) if isinstance(node, ast.Call) and named(node.func) in taken]
            self.assertTrue(all(not node.keywords for node in called), name)
            used = [node for node in ast.walk(tree) if isinstance(node, ast.Name) and node.id in taken]
            self.assertEqual(len(used), len(called), name)

    def test_views_and_ranges_are_iterated_at_once(self):
        for name, node in nodes((ast.Assign, ast.Return)):
            value = node.value
            if isinstance(value, ast.Call) and isinstance(value.func, ast.Name):
                self.assertNotIn(value.func.id, ("zip", "enumerate", "reversed", "map", "set"), (name, node.lineno))


if __name__ == "__main__":
    unittest.main()
