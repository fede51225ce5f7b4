"""The package keeps to its subset of Python, so far as a look at its files can tell."""

import ast
import builtins
import pathlib
import unittest
import warnings

PACKAGE = pathlib.Path(__file__).resolve().parent.parent / "webtimes"
FILES = sorted(PACKAGE.glob("*.py"))

BUILTINS = set(
    "len range enumerate zip min max sum abs sorted reversed int str bool bytes list tuple dict set frozenset"
    " isinstance ord repr any all divmod Exception ValueError TypeError KeyError IndexError LookupError"
    " ZeroDivisionError ArithmeticError OverflowError RuntimeError NotImplementedError AttributeError StopIteration"
    " NotImplemented super iter next map".split()
)
NO_NAMES = set(
    "register mro elements open input law version_info with_traceback add_note attrgetter breakpoint builtins compile"
    " copyright credits delattr dir eval exec exit gc getattr globals hasattr help id importlib license locals"
    " methodcaller os quit setattr type vars sys".split()
)
METHODS = set(
    "append clear copy count endswith extend find get index insert isalnum isalpha isdigit islower isspace isupper"
    " items join keys ljust lower lstrip partition pop remove replace reverse rfind rjust rpartition rsplit rstrip"
    " setdefault split splitlines startswith strip update upper values zfill bit_length sort add discard".split()
)
# What may be imported from outside the package.
LIBRARY = {
    "heapq": {"heappush", "heappop", "heapify", "heapreplace", "heappushpop"},
    "math": {"gcd", "lcm", "isqrt", "comb", "perm", "factorial"},
    "itertools": {"product", "combinations", "permutations"},
}
NO_NODES = (
    ast.Global, ast.AsyncFunctionDef, ast.AsyncFor, ast.AsyncWith, ast.Await, ast.GeneratorExp, ast.Import, ast.Div,
)


def trees():
    return [(path, ast.parse(path.read_text())) for path in FILES]


def all_imports_of(tree):
    return [node for node in tree.body if isinstance(node, ast.ImportFrom)]


def imports_of(tree):
    """Imports from files of the package."""
    return [node for node in all_imports_of(tree) if node.module not in LIBRARY]


def bound_at_top(tree):
    names = []
    for node in tree.body:
        if isinstance(node, (ast.FunctionDef, ast.ClassDef)):
            names.append(node.name)
        elif isinstance(node, ast.Assign):
            names.extend(target.id for target in node.targets)
        elif isinstance(node, ast.ImportFrom):
            names.extend(name.name for name in node.names)
    return names


def bound_within(tree):
    """Names of parameters and variables."""
    names = [node.arg for node in ast.walk(tree) if isinstance(node, ast.arg)]
    variables = [node for node in ast.walk(tree) if isinstance(node, ast.Name)]
    return names + [node.id for node in variables if isinstance(node.ctx, ast.Store)]


def classes_of(tree):
    """The classes with their methods."""
    classes = [node for node in tree.body if isinstance(node, ast.ClassDef)]
    return [(node, [part for part in node.body if isinstance(part, ast.FunctionDef)]) for node in classes]


class Files(unittest.TestCase):
    def test_the_folder_has_files_of_python_alone(self):
        names = [path.name for path in PACKAGE.iterdir() if path.name != "__pycache__"]
        self.assertEqual(sorted(names), [path.name for path in FILES])
        self.assertIn("__init__.py", names)

    def test_size_and_signs(self):
        for path in FILES:
            text = path.read_text(encoding="ascii")
            self.assertTrue(all(sign == "\n" or " " <= sign <= "~" for sign in text), path)
            self.assertLessEqual(len(text.splitlines()), 399, path)
            self.assertLessEqual(max(map(len, text.splitlines())), 120, path)
            self.assertTrue(text.endswith("\n"), path)

    def test_no_warnings(self):
        with warnings.catch_warnings():
            warnings.simplefilter("error")
            for path in FILES:
                compile(path.read_text(), str(path), "exec")

    def test_functions_are_short_and_told(self):
        for path, tree in trees():
            self.assertIsNotNone(ast.get_docstring(tree), path)
            for node in ast.walk(tree):
                if isinstance(node, ast.FunctionDef):
                    self.assertLessEqual(node.end_lineno - node.lineno + 1, 40, node.name)
                    self.assertEqual(node.decorator_list, [])


class Names(unittest.TestCase):
    def test_imports_are_from_the_file_that_defines(self):
        defined = {path.stem: tree for path, tree in trees()}
        for path, tree in trees():
            names = []
            for node in imports_of(tree):
                self.assertEqual(node.level, 0)
                self.assertTrue(node.module.startswith("webtimes."), (path, node.module))
                other = defined[node.module.removeprefix("webtimes.")]
                own = [name.name for inner in imports_of(other) for name in inner.names]
                for name in node.names:
                    self.assertIsNone(name.asname)
                    self.assertIn(name.name, bound_at_top(other))
                    self.assertNotIn(name.name, own)
                    names.append(name.name)
            read = [node.id for node in ast.walk(tree) if isinstance(node, ast.Name)]
            self.assertEqual([name for name in names if name not in read], [], path)

    def test_names_of_the_library_are_only_called(self):
        for path, tree in trees():
            nodes = [node for node in all_imports_of(tree) if node.module in LIBRARY]
            called = [node.func for node in ast.walk(tree) if isinstance(node, ast.Call) and not node.keywords]
            for name in [name for node in nodes for name in node.names]:
                self.assertIn(name.name, [name for node in nodes for name in LIBRARY[node.module]], path)
                self.assertIsNone(name.asname)
                read = [node for node in ast.walk(tree) if isinstance(node, ast.Name) and node.id == name.name]
                self.assertTrue(read and all(node in called for node in read), path)

    def test_no_two_files_import_from_each_other(self):
        to = {path.stem: {node.module.removeprefix("webtimes.") for node in imports_of(tree)} for path, tree in trees()}
        while to:
            free = [name for name in to if not to[name] & set(to)]
            self.assertTrue(free, to)
            for name in free:
                del to[name]

    def test_names_are_bound_once_and_free(self):
        for path, tree in trees():
            top = bound_at_top(tree)
            self.assertEqual(len(top), len(set(top)), path)
            classes = [node.name for node in tree.body if isinstance(node, ast.ClassDef)]
            taken = {name.name for node in all_imports_of(tree) for name in node.names} | set(classes)
            within = bound_within(tree)
            self.assertFalse((set(within) - set(bound_at_top(tree))) & taken, path)
            functions = [node for node in ast.walk(tree) if isinstance(node, ast.FunctionDef)]
            for function in functions:
                self.assertFalse(set(bound_within(function)) & taken, (path, function.name))
            for name in top + within:
                self.assertFalse(hasattr(builtins, name), (path, name))
                self.assertNotIn(name, NO_NAMES)
                self.assertFalse(name.startswith("__"), (path, name))

    def test_only_listed_builtins_and_methods(self):
        own = {name for path, tree in trees() for name in bound_at_top(tree)}
        own |= {method.name for path, tree in trees() for _, methods in classes_of(tree) for method in methods}
        for path, tree in trees():
            for node in ast.walk(tree):
                if isinstance(node, ast.Name) and hasattr(builtins, node.id):
                    self.assertIn(node.id, BUILTINS, path)
                if isinstance(node, ast.Call) and isinstance(node.func, ast.Attribute):
                    self.assertIn(node.func.attr, METHODS | own | {"__init__"}, path)


class Classes(unittest.TestCase):
    def test_methods_and_attributes_are_apart(self):
        for path, tree in trees():
            for node, methods in classes_of(tree):
                names = [method.name for method in methods]
                self.assertEqual(len(names), len(set(names)), path)
                stored = [part.attr for part in ast.walk(node) if isinstance(part, ast.Attribute)
                          and isinstance(part.ctx, ast.Store)]
                self.assertFalse(set(stored) & set(names), path)
                self.assertFalse(set(stored) & METHODS, path)

    def test_double_underscore_methods(self):
        for path, tree in trees():
            for node, methods in classes_of(tree):
                for method in methods:
                    returns = [part.value for part in ast.walk(method) if isinstance(part, ast.Return)]
                    if method.name == "__init__":
                        self.assertEqual(returns, [], path)
                    elif method.name.startswith("__"):
                        self.assertIn(method.name, ("__eq__", "__len__", "__repr__", "__str__"))
                        # One statement alone, which tells something: so nothing is changed.
                        self.assertEqual(len(method.body), 1)
                        self.assertEqual(len(returns), 1, path)
                    if method.name == "__len__":
                        self.assertEqual(returns[0].func.id, "len")
                    if method.name in ("__repr__", "__str__"):
                        repeated = isinstance(returns[0], ast.Call) and returns[0].func.id == "repr"
                        self.assertTrue(isinstance(returns[0], ast.JoinedStr) or repeated, path)


class Statements(unittest.TestCase):
    def test_module_level(self):
        for path, tree in trees():
            for at, node in enumerate(tree.body):
                docstring = at == 0 and isinstance(node, ast.Expr)
                kinds = (ast.FunctionDef, ast.ClassDef, ast.ImportFrom, ast.Assign)
                self.assertTrue(docstring or isinstance(node, kinds), (path, node.lineno))

    def test_no_barred_statements_and_values(self):
        for path, tree in trees():
            for node in ast.walk(tree):
                self.assertNotIsInstance(node, NO_NODES, (path, getattr(node, "lineno", None)))
                if isinstance(node, ast.Constant):
                    self.assertNotIsInstance(node.value, (float, complex), path)
                    if isinstance(node.value, str):
                        self.assertNotIn(chr(37), node.value, path)

    def test_raise_creates_an_own_error(self):
        for path, tree in trees():
            for node in ast.walk(tree):
                if isinstance(node, ast.Raise) and node.exc is not None:
                    self.assertIsInstance(node.exc, ast.Call, path)
                    self.assertIsInstance(node.exc.func, ast.Name, path)

    def test_is_stands_beside_none_and_truths_alone(self):
        for path, tree in trees():
            for node in ast.walk(tree):
                if isinstance(node, ast.Compare):
                    for sign, side in zip(node.ops, node.comparators):
                        if isinstance(sign, (ast.Is, ast.IsNot)):
                            self.assertIsInstance(side, ast.Constant, path)

    def test_what_is_iterated_lazily_is_iterated_at_once(self):
        lazy = ("zip", "enumerate", "reversed", "range", "map")
        for path, tree in trees():
            for node in ast.walk(tree):
                if isinstance(node, (ast.Assign, ast.Return)) and isinstance(node.value, ast.Call):
                    function = node.value.func
                    self.assertFalse(isinstance(function, ast.Name) and function.id in lazy, (path, node.lineno))


if __name__ == "__main__":
    unittest.main()
