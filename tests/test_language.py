"""Rules of LANGUAGE.md that can be read off the files of the package."""

import ast
import builtins
import re
import unittest
from pathlib import Path

PACKAGE = Path(__file__).resolve().parent.parent / "twotides"
FILES = sorted(path for path in PACKAGE.rglob("*") if "__pycache__" not in path.parts)
BUILTINS = set(
    "len range enumerate zip min max sum abs sorted reversed int str bool bytes list tuple dict set frozenset isinstance"
    " ord repr any all divmod pow getattr hasattr setattr iter next map Exception ValueError TypeError KeyError"
    " IndexError LookupError ZeroDivisionError ArithmeticError OverflowError RuntimeError NotImplementedError"
    " AttributeError StopIteration NotImplemented True False None".split())
LIBRARY = {"heapq": "heappush heappop heapify heapreplace heappushpop", "math": "gcd lcm isqrt comb perm factorial",
           "itertools": "product combinations permutations chain accumulate pairwise islice zip_longest",
           "collections": "defaultdict", "__future__": "annotations"}
METHODS = set("__init__ __eq__ __repr__ __str__ __len__ __enter__ __exit__ __call__ __iter__".split())
BARRED = set("register mro elements open input law version_info with_traceback add_note".split())
WORDS = re.compile(r"\b(type|typing|typing_extensions|enum|Enum|IntEnum|StrEnum|Flag|IntFlag|Generic|Protocol|ABC|ABCMeta"
                   r"|namedtuple|NamedTuple|TypedDict|TYPE_CHECKING|abstractmethod)\b|dataclass|overload|contextmanager")
STRANGE = (ast.GeneratorExp, ast.AsyncFunctionDef, ast.AsyncFor, ast.AsyncWith, ast.Await, ast.Global, ast.Div,
           ast.MatMult, ast.Import, ast.ClassDef)


def trees():
    return [(path, ast.parse(path.read_text())) for path in FILES]


def own_names(tree):
    """All names that a file binds or reads off objects."""
    for node in ast.walk(tree):
        if isinstance(node, (ast.FunctionDef, ast.ClassDef)):
            yield node.name
        elif isinstance(node, ast.arg):
            yield node.arg
        elif isinstance(node, ast.Name) and isinstance(node.ctx, ast.Store):
            yield node.id
        elif isinstance(node, ast.Attribute):
            yield node.attr
        elif isinstance(node, ast.alias):
            yield node.name


def is_plain(value, above):
    """Whether a value is a literal, or a dict of literals and of names from above."""
    values = [value]
    if isinstance(value, ast.Dict):
        values = value.keys + [each for each in value.values if not (isinstance(each, ast.Name) and each.id in above)]
    try:
        return all(ast.literal_eval(each) is not Ellipsis for each in values)
    except ValueError:
        return False


class LanguageTest(unittest.TestCase):
    def test_files(self):
        self.assertIn(PACKAGE / "__init__.py", FILES)
        for path in FILES:
            self.assertRegex(path.name, r"^[a-z_]+\.py$")
            self.assertEqual(path.parent, PACKAGE)

    def test_size_and_characters(self):
        for path in FILES:
            text = path.read_text()
            self.assertRegex(text, r"\A[ -~\n]*\n\Z", path.name)
            lines = text.splitlines()
            self.assertLess(len(lines), 400, path.name)
            self.assertLessEqual(max(map(len, lines)), 120, path.name)
        for path, tree in trees():
            for node in ast.walk(tree):
                if isinstance(node, ast.FunctionDef):
                    self.assertLessEqual(node.end_lineno - node.lineno + 1, 40, node.name)

    def test_imports(self):
        for path, tree in trees():
            for node in ast.walk(tree):
                if not isinstance(node, ast.ImportFrom):
                    continue
                self.assertEqual(node.level, 0)
                self.assertTrue(all(name.asname is None and name.name != "*" for name in node.names))
                if node.module in LIBRARY:
                    self.assertLessEqual({name.name for name in node.names}, set(LIBRARY[node.module].split()))
                    continue
                self.assertRegex(node.module, r"^twotides\.[a-z_]+$")
                defining = ast.parse((PACKAGE / f"{node.module.split('.')[1]}.py").read_text())
                for name in node.names:
                    self.assertTrue(any(getattr(row, "name", None) == name.name or isinstance(row, ast.Assign)
                                        and row.targets[0].id == name.name for row in defining.body), name.name)

    def test_no_imports_in_a_ring(self):
        needed = {path.stem: {node.module.split(".")[1] for node in ast.walk(tree) if isinstance(node, ast.ImportFrom)
                              and node.module.startswith("twotides.")} for path, tree in trees()}
        while needed:
            done = {name for name, others in needed.items() if not others & set(needed)}
            self.assertTrue(done, needed)
            needed = {name: others for name, others in needed.items() if name not in done}

    def test_module_level(self):
        for path, tree in trees():
            bound = []
            for row in tree.body:
                kinds = (ast.Expr, ast.ImportFrom, ast.FunctionDef, ast.ClassDef, ast.Assign)
                self.assertIsInstance(row, kinds, path.name)
                if isinstance(row, (ast.FunctionDef, ast.ClassDef)):
                    bound.append(row.name)
                if isinstance(row, ast.Assign):
                    self.assertTrue(is_plain(row.value, bound), (path.name, row.lineno))
                    bound.append(row.targets[0].id)
                if isinstance(row, ast.ImportFrom):
                    bound.extend(name.name for name in row.names)
            self.assertEqual(len(bound), len(set(bound)), path.name)

    def test_statements_and_expressions(self):
        for path, tree in trees():
            for node in ast.walk(tree):
                place = (path.name, getattr(node, "lineno", 0))
                if not isinstance(node, ast.ClassDef):
                    self.assertNotIsInstance(node, STRANGE, place)
                if isinstance(node, ast.Constant):
                    self.assertNotIsInstance(node.value, (float, complex), place)
                    self.assertNotIn("%", str(node.value), place)
                if isinstance(node, ast.Compare) and any(isinstance(sign, (ast.Is, ast.IsNot)) for sign in node.ops):
                    self.assertIsInstance(node.comparators[0], ast.Constant, place)
                if isinstance(node, (ast.FunctionDef, ast.ClassDef)):
                    self.assertEqual(node.decorator_list, [], place)
                if isinstance(node, ast.ExceptHandler):
                    self.assertIsNotNone(node.type, place)
                if isinstance(node, ast.Raise) and node.exc is not None:
                    self.assertIsInstance(node.exc.func, ast.Name, place)

    def test_names(self):
        for path, tree in trees():
            classes = {node.name for node in tree.body if isinstance(node, ast.ClassDef)}
            known = {name.name for node in tree.body if isinstance(node, ast.ImportFrom) for name in node.names}
            for name in own_names(tree):
                self.assertNotIn(name, BARRED, path.name)
                if name.startswith("__"):
                    self.assertIn(name, METHODS, path.name)
            for node in ast.walk(tree):
                if isinstance(node, ast.arg) or isinstance(node, ast.Name) and isinstance(node.ctx, ast.Store):
                    name = node.arg if isinstance(node, ast.arg) else node.id
                    self.assertNotIn(name, classes | known | set(dir(builtins)), (path.name, node.lineno))
                if isinstance(node, ast.Name) and isinstance(node.ctx, ast.Load) and hasattr(builtins, node.id):
                    self.assertIn(node.id, BUILTINS, (path.name, node.lineno))

    def test_words(self):
        for path, tree in trees():
            for node in ast.walk(tree):
                if isinstance(node, (ast.Module, ast.ClassDef, ast.FunctionDef)) and ast.get_docstring(node):
                    del node.body[0]
            self.assertNotRegex(ast.unparse(tree), WORDS, path.name)


if __name__ == "__main__":
    unittest.main()
