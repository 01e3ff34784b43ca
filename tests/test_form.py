"""What the form of the package's code must keep, as far as it can be told from the files."""

import ast
import builtins
import re
import unittest
from pathlib import Path

PACKAGE = Path(__file__).resolve().parent.parent / "roundpost"
FILES = sorted(PACKAGE.glob("*.py"))

LIBRARY = {
    "heapq": "heappush heappop heapify heapreplace heappushpop", "math": "gcd lcm isqrt comb perm factorial",
    "itertools": "product combinations permutations chain accumulate pairwise islice zip_longest",
    "collections": "defaultdict",
}
ALLOWED_BUILTINS = set(
    "len range enumerate zip min max sum abs sorted reversed int str bool list tuple dict set isinstance ord repr any "
    "all divmod pow map iter next getattr hasattr setattr property staticmethod classmethod super object "
    "Exception ValueError TypeError KeyError IndexError LookupError ZeroDivisionError ArithmeticError OverflowError "
    "RuntimeError NotImplementedError AttributeError StopIteration NotImplemented".split()
)
BARRED_ANYWHERE = set("register mro elements open input law version_info with_traceback add_note".split())
BARRED_BUT_AS_ATTRIBUTES = set(
    "attrgetter breakpoint builtins compile "
    "copyright credits delattr dir eval exec exit gc globals help id importlib license locals methodcaller os quit "
    "type vars sys".split()
)
BARRED_WORDS = re.compile(
    r"\b(typing|typing_extensions|enum|Enum|IntEnum|StrEnum|Flag|IntFlag|Generic|Protocol|ABC|ABCMeta|namedtuple|"
    r"NamedTuple|TypedDict|TYPE_CHECKING|abstractmethod)\b|dataclass|overload|contextmanager"
)
BARRED_NODES = (
    ast.Global, ast.AsyncFunctionDef, ast.AsyncFor, ast.AsyncWith, ast.Await, ast.Div, ast.MatMult,
)


def trees():
    return [(path, ast.parse(path.read_text())) for path in FILES]


def nodes():
    return [(f"{path.name}:{getattr(node, 'lineno', 0)}", node) for path, tree in trees() for node in ast.walk(tree)]


def defined(tree):
    """The names that a file binds by its own statements at module level."""
    found = [node.name for node in tree.body if isinstance(node, (ast.FunctionDef, ast.ClassDef))]
    return found + [node.targets[0].id for node in tree.body if isinstance(node, ast.Assign)]


def imported(tree):
    return [(node.module, alias.name) for node in tree.body if isinstance(node, ast.ImportFrom) for alias in node.names]


def is_docstring(node):
    return isinstance(node, ast.Expr) and isinstance(node.value, ast.Constant) and isinstance(node.value.value, str)


def docstrings(tree):
    holders = (ast.Module, ast.ClassDef, ast.FunctionDef)
    return [id(node.body[0].value) for node in ast.walk(tree)
            if isinstance(node, holders) and node.body and is_docstring(node.body[0])]


class Files(unittest.TestCase):
    def test_one_folder_of_plain_files(self):
        held = [path for path in PACKAGE.iterdir() if path.name != "__pycache__"]
        self.assertEqual(sorted(held), FILES)
        self.assertIn("__init__.py", [path.name for path in FILES])
        for path in FILES:
            self.assertRegex(path.name, r"^([a-z][a-z0-9_]*|__init__|__main__)\.py$")

    def test_sizes_and_characters(self):
        for path in FILES:
            text = path.read_bytes().decode("ascii")
            self.assertLessEqual(len(text.split("\n")), 399, path.name)
            for number, line in enumerate(text.split("\n"), 1):
                self.assertLessEqual(len(line), 120, f"{path.name}:{number}")
                self.assertTrue(all(" " <= sign <= "~" for sign in line), f"{path.name}:{number}")

    def test_sizes_of_functions(self):
        for place, node in nodes():
            if isinstance(node, ast.FunctionDef):
                self.assertLessEqual(node.end_lineno - node.lineno + 1, 40, place)


class Imports(unittest.TestCase):
    def test_they_name_the_file_that_defines_the_name(self):
        own = {f"roundpost.{path.stem}": defined(tree) for path, tree in trees()}
        for path, tree in trees():
            for module, name in imported(tree):
                if module in LIBRARY:
                    self.assertIn(name, LIBRARY[module].split(), path.name)
                else:
                    self.assertIn(name, own.get(module, []), f"{path.name}: {module}")

    def test_they_stand_at_the_top(self):
        for path, tree in trees():
            kinds = [isinstance(node, ast.ImportFrom) for node in tree.body if not is_docstring(node)]
            self.assertEqual(kinds, sorted(kinds, reverse=True), path.name)
        for place, node in nodes():
            self.assertNotIsInstance(node, ast.Import, place)
            if isinstance(node, ast.ImportFrom):
                self.assertEqual(node.col_offset, 0, place)
                self.assertEqual([alias.asname for alias in node.names], [None] * len(node.names), place)

    def test_no_rings(self):
        left = {f"roundpost.{path.stem}": {module for module, _ in imported(tree)} for path, tree in trees()}
        while left:
            free = [module for module in left if not left[module] & set(left)]
            self.assertTrue(free, f"files that import from each other are among {sorted(left)}")
            for module in free:
                del left[module]


class ModuleLevel(unittest.TestCase):
    def test_statements(self):
        for path, tree in trees():
            for node in tree.body:
                if not isinstance(node, (ast.ImportFrom, ast.FunctionDef, ast.ClassDef)) and not is_docstring(node):
                    self.assertIsInstance(node, ast.Assign, f"{path.name}:{node.lineno}")
                    self.assertEqual([type(target) for target in node.targets], [ast.Name], path.name)
                    self.assertFalse([part for part in ast.walk(node.value) if isinstance(part, ast.Call)], path.name)

    def test_each_name_is_bound_once(self):
        for path, tree in trees():
            names = defined(tree) + [name for _, name in imported(tree)]
            self.assertEqual(len(names), len(set(names)), path.name)


class Code(unittest.TestCase):
    def test_barred_statements_and_signs(self):
        for place, node in nodes():
            self.assertNotIsInstance(node, BARRED_NODES, place)
            if isinstance(node, ast.FunctionDef):
                for one in node.decorator_list:
                    self.assertRegex(ast.unparse(one), r"^(property|staticmethod|classmethod|\w+\.setter)$", place)
            if isinstance(node, ast.Constant):
                self.assertNotIsInstance(node.value, (float, complex), place)

    def test_builtins(self):
        every = set(dir(builtins))
        for place, node in nodes():
            if isinstance(node, ast.Name) and node.id in every:
                self.assertIn(node.id, ALLOWED_BUILTINS, place)
                self.assertIsInstance(node.ctx, ast.Load, place)
            if isinstance(node, ast.arg):
                self.assertNotIn(node.arg, every, place)
            if isinstance(node, (ast.FunctionDef, ast.ClassDef)):
                self.assertNotIn(node.name, every, place)

    def test_names(self):
        for place, node in nodes():
            for field in ["id", "arg", "attr", "name"]:
                name = getattr(node, field, None)
                if isinstance(name, str):
                    self.assertNotIn(name, BARRED_ANYWHERE, place)
                    self.assertFalse(field != "attr" and name in BARRED_BUT_AS_ATTRIBUTES, f"{place}: {name}")
                    self.assertRegex(name, r"^(_?[A-Za-z][A-Za-z0-9_]*|_|__[a-z]+__)$", place)

    def test_local_names_hide_no_class_and_no_import(self):
        for path, tree in trees():
            taken = [name for _, name in imported(tree)]
            taken += [node.name for node in tree.body if isinstance(node, ast.ClassDef)]
            for node in ast.walk(tree):
                stored = node.id if isinstance(node, ast.Name) and isinstance(node.ctx, ast.Store) else None
                name = node.arg if isinstance(node, ast.arg) else stored
                self.assertNotIn(name, taken, f"{path.name}:{getattr(node, 'lineno', 0)}")

    def test_comparisons_by_is(self):
        for place, node in nodes():
            if isinstance(node, ast.Compare) and any(isinstance(one, (ast.Is, ast.IsNot)) for one in node.ops):
                self.assertIn(ast.unparse(node.comparators[0]), ["None", "True", "False", "self"], place)

    def test_strings(self):
        for path, tree in trees():
            held = docstrings(tree)
            for node in ast.walk(tree):
                if isinstance(node, ast.Constant) and isinstance(node.value, str):
                    place = f"{path.name}:{node.lineno}"
                    self.assertNotIn("%", node.value, place)
                    if id(node) not in held:
                        self.assertIsNone(BARRED_WORDS.search(node.value), place)

    def test_set_literals_are_not_iterated(self):
        for place, node in nodes():
            if isinstance(node, (ast.For, ast.comprehension)):
                self.assertNotIsInstance(node.iter, (ast.Set, ast.SetComp), place)
                self.assertFalse(ast.unparse(node.iter).startswith(("set(", "frozenset(")), place)


if __name__ == "__main__":
    unittest.main()
