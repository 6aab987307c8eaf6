"""The package's files keep to the language's rules, as far as a plain look can tell.

Not each rule is looked at here. What is looked at is at times narrower than
the rule, where the program has no need of the rest.
"""

import ast
import builtins
import re
import unittest
from pathlib import Path

import paymill
from paymill import errors

PACKAGE = Path(paymill.__file__).parent
LIBRARY = {
    "math": {"gcd", "lcm", "isqrt", "comb", "perm", "factorial"},
    "heapq": {"heappush", "heappop", "heapify", "heapreplace", "heappushpop"},
    "itertools": {"product", "combinations", "permutations", "chain", "accumulate", "pairwise",
                  "islice", "zip_longest"},
    "collections": {"defaultdict", "deque"},
}
BUILTINS = set(
    "len range enumerate zip min max sum abs sorted reversed int str bool list tuple dict set "
    "isinstance ord repr any all divmod pow iter next map super type property staticmethod "
    "classmethod Exception ValueError TypeError KeyError IndexError LookupError "
    "ZeroDivisionError ArithmeticError OverflowError RuntimeError NotImplementedError "
    "AttributeError StopIteration NotImplemented".split()
)
METHODS = set(
    "append clear copy count endswith extend find get index insert isalnum isalpha isdigit "
    "islower isspace isupper items join keys ljust lower lstrip partition pop remove replace "
    "reverse rfind rjust rpartition rsplit rstrip setdefault split splitlines startswith strip "
    "update upper values zfill bit_length removeprefix removesuffix isascii isdecimal add "
    "discard".split()
)
DOUBLE = {"__init__", "__eq__", "__repr__", "__str__", "__len__"}
KEYWORDS = {"sorted": {"key", "reverse"}, "min": {"key", "default"}, "max": {"key", "default"},
            "sum": {"start"}, "enumerate": {"start"}, "zip": {"strict"}}
BARRED_NODES = (
    ast.AsyncFunctionDef, ast.Import, ast.GeneratorExp, ast.Global, ast.Div, ast.Await,
    ast.Match, ast.With,
)
BARRED_WORDS = set(
    "typing typing_extensions enum Enum IntEnum StrEnum Flag IntFlag Generic Protocol ABC "
    "ABCMeta namedtuple NamedTuple TypedDict TYPE_CHECKING abstractmethod".split()
)
BARRED_NAMES = set(
    "register mro elements open input law version_info with_traceback add_note attrgetter "
    "breakpoint builtins compile copyright credits delattr dir eval exec exit gc globals help "
    "id importlib license locals methodcaller os quit vars".split()
)


def files():
    return sorted(PACKAGE.rglob("*.py"))


def trees():
    return [(path, ast.parse(path.read_text())) for path in files()]


def nodes(kind):
    return [(path, node) for path, tree in trees() for node in ast.walk(tree)
            if isinstance(node, kind)]


def docstrings(tree):
    """The nodes of a file's docstrings."""
    found = []
    for node in ast.walk(tree):
        if isinstance(node, (ast.Module, ast.ClassDef, ast.FunctionDef)) and node.body:
            first = node.body[0]
            if isinstance(first, ast.Expr) and isinstance(first.value, ast.Constant):
                found.append(first.value)
    return found


def bound_names(tree):
    """Names that a file binds anywhere, but for methods and attributes."""
    found = [node.id for node in ast.walk(tree)
             if isinstance(node, ast.Name) and isinstance(node.ctx, ast.Store)]
    found.extend([node.arg for node in ast.walk(tree) if isinstance(node, ast.arg)])
    found.extend([node.name for node in ast.walk(tree)
                  if isinstance(node, (ast.FunctionDef, ast.ClassDef))])
    return found


class LanguageTest(unittest.TestCase):
    def test_files(self):
        for path in PACKAGE.rglob("*"):
            if "__pycache__" not in path.parts:
                self.assertRegex(path.name, r"^[a-z_][a-z0-9_]*\.py$")
        self.assertTrue((PACKAGE / "__init__.py").exists())

    def test_sizes_and_signs(self):
        for path in files():
            text = path.read_text()
            self.assertIsNone(re.search(r"[^ -~\n]", text), path)
            self.assertTrue(text.endswith("\n"), path)
            self.assertLessEqual(len(text.splitlines()), 399, path)
            for row in text.splitlines():
                self.assertLessEqual(len(row), 120, path)
        for path, node in nodes(ast.FunctionDef):
            self.assertLessEqual(node.end_lineno - node.lineno + 1, 40, (path, node.name))

    def test_imports(self):
        graph = {}
        for path, node in nodes(ast.ImportFrom):
            names = [alias.name for alias in node.names]
            self.assertEqual((node.level, [alias.asname for alias in node.names]),
                             (0, [None] * len(names)), path)
            if node.module in LIBRARY:
                self.assertLessEqual(set(names), LIBRARY[node.module], path)
                continue
            home = PACKAGE.parent / (node.module.replace(".", "/") + ".py")
            self.assertTrue(node.module.startswith("paymill.") and home.exists(), node.module)
            tops = ast.parse(home.read_text()).body
            own = [top.name for top in tops if isinstance(top, (ast.FunctionDef, ast.ClassDef))]
            own.extend([top.targets[0].id for top in tops if isinstance(top, ast.Assign)])
            self.assertLessEqual(set(names), set(own), path)
            graph.setdefault(path.stem, set()).add(home.stem)
        while graph:
            free = [stem for stem, wants in graph.items() if not wants & set(graph)]
            self.assertTrue(free, f"files import each other: {graph}")
            for stem in free:
                del graph[stem]

    def test_imports_are_used(self):
        for path, tree in trees():
            names = [alias.name for node in ast.walk(tree) if isinstance(node, ast.ImportFrom)
                     for alias in node.names]
            used = [node.id for node in ast.walk(tree) if isinstance(node, ast.Name)]
            self.assertLessEqual(set(names), set(used), path)
            self.assertEqual(len(names), len(set(names)), path)

    def test_module_level(self):
        for path, tree in trees():
            bound = []
            for at, node in enumerate(tree.body):
                if isinstance(node, ast.Assign):
                    self.assertEqual(len(node.targets), 1)
                    self.assertIsInstance(node.targets[0], ast.Name)
                    bound.append(node.targets[0].id)
                elif isinstance(node, ast.Expr):
                    self.assertEqual(at, 0, path)
                else:
                    self.assertIsInstance(node, (ast.ImportFrom, ast.FunctionDef, ast.ClassDef))
                    bound.extend([node.name] if not isinstance(node, ast.ImportFrom) else [])
            self.assertEqual(len(bound), len(set(bound)), path)

    def test_no_barred_statements_and_values(self):
        for path, node in nodes(BARRED_NODES):
            self.fail(f"{path}:{node.lineno} {type(node).__name__}")
        for path, node in nodes(ast.Constant):
            self.assertIn(type(node.value), (int, str, bool, type(None)), (path, node.lineno))

    def test_own_errors_alone_are_caught(self):
        for path, node in nodes(ast.Try):
            self.assertEqual(node.orelse, [], (path, node.lineno))
            for last in node.finalbody:
                self.assertTrue(is_append_of_names(last), (path, last.lineno))
            for handler in node.handlers:
                self.assertIsInstance(handler.type, ast.Name, (path, node.lineno))
                self.assertIn(handler.type.id, vars(errors), (path, node.lineno))
                self.assertIsNone(handler.name, (path, node.lineno))

    def test_strings(self):
        for path, tree in trees():
            told = docstrings(tree)
            for node in ast.walk(tree):
                if isinstance(node, ast.Constant) and type(node.value) is str:
                    where = f"{path}:{node.lineno}"
                    self.assertNotIn("%", node.value, where)
                    self.assertNotRegex(node.value, r"__$|\._$", where)
                    if not any([node is one for one in told]):
                        words = set(re.findall(r"\w+", node.value))
                        self.assertFalse(words & BARRED_WORDS, where)

    def test_names(self):
        for path, tree in trees():
            imported = {alias.name for node in tree.body if isinstance(node, ast.ImportFrom)
                        for alias in node.names}
            classes = {node.name for node in tree.body if isinstance(node, ast.ClassDef)}
            methods = {node.name for top in ast.walk(tree) if isinstance(top, ast.ClassDef)
                       for node in top.body if isinstance(node, ast.FunctionDef)}
            for name in bound_names(tree):
                self.assertNotIn(name, imported, path)
                self.assertFalse(name in BARRED_NAMES or name in BARRED_WORDS, (path, name))
                if name in DOUBLE:
                    continue
                self.assertRegex(name, r"^(_|_?[A-Za-z][A-Za-z0-9_]*)$", path)
                if name not in methods:
                    self.assertFalse(hasattr(builtins, name), (path, name))
            for node in ast.walk(tree):
                if isinstance(node, ast.arg):
                    self.assertNotIn(node.arg, classes, path)

    def test_builtins_and_methods(self):
        own = {node.name for _, node in nodes(ast.FunctionDef)}
        stored = {node.attr for _, node in nodes(ast.Attribute)
                  if isinstance(node.ctx, ast.Store)}
        for path, node in nodes(ast.Name):
            if hasattr(builtins, node.id):
                self.assertIn(node.id, BUILTINS, (path, node.lineno))
        for path, node in nodes(ast.Attribute):
            where = f"{path}:{node.lineno} {node.attr}"
            self.assertTrue(node.attr in METHODS | own | stored | DOUBLE, where)
        for path, node in nodes(ast.Call):
            if isinstance(node.func, ast.Name) and hasattr(builtins, node.func.id):
                told = {keyword.arg for keyword in node.keywords}
                self.assertLessEqual(told, KEYWORDS.get(node.func.id, set()), (path, node.lineno))

    def test_classes_and_functions(self):
        for path, node in nodes(ast.ClassDef):
            self.assertEqual((node.decorator_list, node.keywords), ([], []), path)
            for inner in node.body:
                if isinstance(inner, ast.FunctionDef) and inner.name.startswith("__"):
                    self.assertIn(inner.name, DOUBLE, path)
        for path, node in nodes(ast.FunctionDef):
            self.assertEqual(node.decorator_list, [], path)
            for arg in ast.walk(node.args):
                self.assertNotIsInstance(arg, (ast.List, ast.Dict, ast.Set, ast.Call), path)
        for path, node in nodes(ast.Compare):
            for sign, value in zip(node.ops, node.comparators):
                if isinstance(sign, (ast.Is, ast.IsNot)) and not is_type_of(node.left):
                    self.assertIsInstance(value, ast.Constant, (path, node.lineno))

    def test_sets_and_powers(self):
        for path, tree in trees():
            fit = []
            for node in ast.walk(tree):
                if isinstance(node, ast.Call) and isinstance(node.func, ast.Name) \
                        and node.func.id in ("sorted", "len"):
                    fit.extend(node.args)
                if isinstance(node, ast.Assign) and isinstance(node.targets[0], ast.Name):
                    fit.append(node.value)
            for node in ast.walk(tree):
                is_set = isinstance(node, (ast.Set, ast.SetComp)) or (
                    isinstance(node, ast.Call) and isinstance(node.func, ast.Name)
                    and node.func.id == "set")
                if is_set:
                    self.assertTrue(any([node is one for one in fit]), (path, node.lineno))
                if isinstance(node, ast.Call):
                    for arg in node.args:
                        if isinstance(arg, ast.Starred):
                            self.assertIsInstance(arg.value, ast.Name, (path, node.lineno))
                if isinstance(node, ast.BinOp) and isinstance(node.op, ast.Pow):
                    self.assertIsInstance(node.right, ast.Constant, (path, node.lineno))
                    self.assertLessEqual(node.right.value, 64, (path, node.lineno))


def is_append_of_names(node):
    """Whether a statement is `x.y.append((name, "word"))`, or the like."""
    if not (isinstance(node, ast.Expr) and isinstance(node.value, ast.Call)):
        return False
    call = node.value
    return (isinstance(call.func, ast.Attribute) and call.func.attr == "append"
            and isinstance(call.func.value, ast.Attribute) and isinstance(call.args[0], ast.Tuple)
            and all([isinstance(one, (ast.Name, ast.Constant)) for one in call.args[0].elts]))


def is_type_of(node):
    return (isinstance(node, ast.Call) and isinstance(node.func, ast.Name)
            and node.func.id == "type")


if __name__ == "__main__":
    unittest.main()
