"""Whether the package keeps to its subset of Python, as far as single rows of code show it."""

import ast
import builtins
import re
from pathlib import Path
from unittest import TestCase

PACKAGE = Path(__file__).parent.parent / "dearsigns"

BUILTINS = """len range enumerate zip min max sum abs sorted reversed int str bool bytes list tuple dict set frozenset
    isinstance ord repr any all divmod super property staticmethod classmethod Exception ValueError TypeError KeyError
    IndexError LookupError ZeroDivisionError ArithmeticError OverflowError RuntimeError NotImplementedError
    AttributeError StopIteration""".split()

METHODS = """append clear copy count endswith extend find get index insert isalnum isalpha isdigit islower isspace
    isupper items join keys ljust lower lstrip partition pop remove replace reverse rfind rjust rpartition rsplit
    rstrip setdefault split splitlines startswith strip update upper values zfill bit_length add discard sort
    __init__""".split()

BARRED_NAMES = """register mro elements open input version_info with_traceback add_note attrgetter breakpoint compile
    copyright credits delattr dir eval exec exit gc getattr globals hasattr help id importlib license locals
    methodcaller os quit setattr type vars sys""".split()

BARRED_WORDS = re.compile(
    r"\b(type|typing|typing_extensions|enum|Enum|IntEnum|StrEnum|Flag|IntFlag|Generic|Protocol|ABC|ABCMeta|namedtuple"
    r"|NamedTuple|TypedDict|TYPE_CHECKING|abstractmethod)\b|dataclass|overload|contextmanager")

AT_ONCE = ("zip", "enumerate", "reversed", "range", "items", "keys", "values")
AT_ONCE_IN = ("list", "tuple", "dict", "sorted", "sum", "any", "all", "enumerate", "zip", "min", "max", "join", "len",
              "reversed")

BARRED_NODES = (ast.Global, ast.AsyncFunctionDef, ast.AsyncFor, ast.AsyncWith, ast.Await, ast.NamedExpr, ast.Div,
                ast.MatMult, ast.Import)


def files():
    return sorted(PACKAGE.glob("*.py"))


def nodes(path):
    return list(ast.walk(ast.parse(path.read_text())))


def bound_at_top(tree):
    """The names that a file binds at module level, each as often as it does."""
    names = []
    for row in tree.body:
        if isinstance(row, (ast.FunctionDef, ast.ClassDef)):
            names.append(row.name)
        elif isinstance(row, ast.ImportFrom):
            names += [part.asname or part.name for part in row.names]
        elif isinstance(row, ast.Assign):
            names += [target.id for target in row.targets]
    return names


def bound_within(tree):
    """The parameters and local names of a file's functions."""
    names = []
    for function in [node for node in ast.walk(tree) if isinstance(node, (ast.FunctionDef, ast.Lambda))]:
        names += [node.arg for node in ast.walk(function.args) if isinstance(node, ast.arg)]
        names += [node.id for node in ast.walk(function)
                  if isinstance(node, ast.Name) and not isinstance(node.ctx, ast.Load)]
    return names


def called_name(node):
    if not isinstance(node, ast.Call):
        return None
    return node.func.id if isinstance(node.func, ast.Name) else getattr(node.func, "attr", None)


class FilesTest(TestCase):

    def test_folder(self):
        inside = [path for path in PACKAGE.iterdir() if path.name != "__pycache__"]
        self.assertIn(PACKAGE / "__init__.py", inside)
        for path in inside:
            self.assertRegex(path.name, r"^([a-z][a-z0-9_]*|__init__|__main__)\.py$")

    def test_sizes_and_characters(self):
        for path in files():
            text = path.read_text()
            rows = text.splitlines()
            self.assertLessEqual(len(rows), 400, path)
            self.assertLessEqual(max(len(row) for row in rows), 120, path)
            self.assertRegex(text, r"^[ -~\n]*$", path)
            for node in nodes(path):
                if isinstance(node, ast.FunctionDef):
                    self.assertLessEqual(node.end_lineno - node.lineno + 1, 40, node.name)

    def test_barred_words(self):
        for path in files():
            self.assertIsNone(BARRED_WORDS.search(path.read_text()), path)

    def test_strings(self):
        for path in files():
            self.assertIsNone(re.search(r"\\[^nt\\\"']", path.read_text()), path)
            for node in nodes(path):
                if isinstance(node, ast.Constant) and isinstance(node.value, str):
                    self.assertNotIn("%", node.value, path)

    def test_module_level(self):
        for path in files():
            tree = ast.parse(path.read_text())
            for place, row in enumerate(tree.body):
                if isinstance(row, ast.Expr):
                    self.assertTrue(place == 0 and isinstance(row.value, ast.Constant), path)
                else:
                    self.assertIsInstance(row, (ast.ImportFrom, ast.FunctionDef, ast.ClassDef, ast.Assign), path)
                if isinstance(row, ast.Assign):
                    self.assertFalse([node for node in ast.walk(row.value) if isinstance(node, ast.Call)], path)


class NamesTest(TestCase):

    def test_imports_name_the_file_that_defines(self):
        reached = {}
        for path in files():
            tree = ast.parse(path.read_text())
            reached[path.stem] = []
            for node in [node for node in ast.walk(tree) if isinstance(node, ast.ImportFrom)]:
                self.assertIn(node, tree.body)
                self.assertEqual(node.level, 0)
                package, stem = node.module.split(".")
                self.assertEqual(package, "dearsigns")
                other = ast.parse((PACKAGE / f"{stem}.py").read_text())
                own = [name for row in other.body if not isinstance(row, ast.ImportFrom)
                       for name in bound_at_top(ast.Module([row], []))]
                self.assertLessEqual({part.name for part in node.names}, set(own), path)
                reached[path.stem].append(stem)
        while reached:
            free = [stem for stem in reached if not [other for other in reached[stem] if other in reached]]
            self.assertTrue(free, "files import from each other")
            for stem in free:
                del reached[stem]

    def test_imports_are_used(self):
        for path in files():
            tree = ast.parse(path.read_text())
            used = {node.id for node in ast.walk(tree) if isinstance(node, ast.Name)}
            for node in [node for node in tree.body if isinstance(node, ast.ImportFrom)]:
                self.assertLessEqual({part.name for part in node.names}, used, path)

    def test_names_are_bound_once_and_plain(self):
        for path in files():
            tree = ast.parse(path.read_text())
            top = bound_at_top(tree)
            within = bound_within(tree)
            self.assertEqual(len(top), len(set(top)), path)
            self.assertFalse(set(top) & set(within), path)
            for name in [*top, *within]:
                self.assertFalse(name.startswith("_"), name)
                self.assertFalse(hasattr(builtins, name), name)
                self.assertNotIn(name, BARRED_NAMES)

    def test_no_name_is_a_method_and_an_attribute(self):
        methods, assigned, read = set(), set(), set()
        for path in files():
            for node in nodes(path):
                if isinstance(node, ast.ClassDef):
                    methods |= {row.name for row in node.body if isinstance(row, ast.FunctionDef)}
                elif isinstance(node, ast.Attribute):
                    (assigned if isinstance(node.ctx, ast.Store) else read).add(node.attr)
        self.assertFalse(methods & assigned)
        self.assertLessEqual(read, methods | assigned | set(METHODS))

    def test_builtins_and_methods(self):
        own = {node.name for path in files() for node in nodes(path) if isinstance(node, ast.FunctionDef)}
        for path in files():
            for node in nodes(path):
                if isinstance(node, ast.Name) and hasattr(builtins, node.id):
                    self.assertIn(node.id, BUILTINS, path)
                if isinstance(node, ast.Call) and isinstance(node.func, ast.Attribute):
                    self.assertIn(node.func.attr, [*METHODS, *own], path)


class RowsTest(TestCase):

    def test_barred_rows(self):
        for path in files():
            for node in nodes(path):
                self.assertNotIsInstance(node, BARRED_NODES, path)
                if isinstance(node, ast.Constant):
                    self.assertIn(type(node.value), (int, str, bytes, bool, type(None)), path)
                if isinstance(node, ast.FunctionDef):
                    self.assertFalse(node.args.posonlyargs, path)
                if isinstance(node, ast.BinOp) and isinstance(node.op, ast.Pow):
                    self.assertIn(getattr(node.right, "value", None), range(65), path)

    def test_is_stands_with_none_and_truths_only(self):
        for path in files():
            for node in [node for node in nodes(path) if isinstance(node, ast.Compare)]:
                for operator, right in zip(node.ops, node.comparators):
                    if isinstance(operator, (ast.Is, ast.IsNot)):
                        self.assertTrue(isinstance(right, ast.Constant) and right.value in (None, True, False), path)

    def test_errors_are_raised_on_the_spot_and_caught_by_name(self):
        for path in files():
            for node in nodes(path):
                if isinstance(node, ast.Raise) and node.exc is not None:
                    self.assertIsNotNone(called_name(node.exc), path)
                if isinstance(node, ast.ExceptHandler):
                    self.assertIsNotNone(node.type, path)
                    self.assertNotIn(getattr(node.type, "id", None), ("Exception", "TypeError"), path)

    def test_what_is_iterated_at_once(self):
        for path in files():
            allowed = []
            for node in nodes(path):
                if isinstance(node, (ast.For, ast.comprehension)):
                    allowed.append(node.iter)
                if isinstance(node, (ast.Compare,)):
                    allowed += node.comparators
                if called_name(node) in AT_ONCE_IN:
                    allowed += node.args
            for node in nodes(path):
                if called_name(node) in AT_ONCE:
                    self.assertIn(ast.dump(node), [ast.dump(other) for other in allowed], path)
