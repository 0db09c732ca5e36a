"""The package keeps to its subset of Python: what of it can be seen in the files alone."""

import ast
import builtins
import re
import unittest
from pathlib import Path

PACKAGE = Path(__file__).resolve().parent.parent / "loneguess"
FILES = sorted(path for path in PACKAGE.rglob("*") if "__pycache__" not in path.parts and path.is_file())
LIBRARY = {"heapq": {"heappush", "heappop", "heapify", "heapreplace", "heappushpop"},
           "math": {"gcd", "lcm", "isqrt", "comb", "perm", "factorial"}}
ALLOWED = set("""len range enumerate zip min max sum abs sorted reversed int str bool bytes list tuple dict
isinstance ord repr any all divmod Exception ValueError TypeError KeyError IndexError LookupError
ZeroDivisionError ArithmeticError OverflowError RuntimeError NotImplementedError AttributeError
NotImplemented property staticmethod classmethod iter next super""".split())
METHODS = set("""append clear copy count endswith extend find get index insert isalnum isalpha isdigit islower isspace
isupper items join keys ljust lower lstrip partition pop remove replace reverse rfind rjust rpartition rsplit rstrip
setdefault split splitlines startswith strip update upper values zfill bit_length""".split())
DOUBLE = set("""__init__ __eq__ __repr__ __str__ __len__ __enter__ __exit__ __call__ __iter__ __lt__ __le__ __gt__
__ge__ __ne__ __add__ __sub__ __mul__ __and__ __or__ __xor__ __neg__ __invert__ __bool__ __contains__ __getitem__
__setitem__""".split())
BARRED = set("""register mro elements open input law version_info with_traceback add_note attrgetter breakpoint
builtins compile copyright credits delattr dir eval exec exit gc getattr globals hasattr help id importlib license
locals methodcaller os quit setattr type vars sys map filter""".split())
WORDS = re.compile(r"\b(typing|typing_extensions|enum|Enum|IntEnum|StrEnum|Flag|IntFlag|Generic|Protocol|ABC|ABCMeta"
                   r"|namedtuple|NamedTuple|TypedDict|TYPE_CHECKING|abstractmethod)\b|dataclass|overload|contextmanager"
                   r"|_wall|_WallAttr|Meta|metaclass=|\(type\)")
BANNED_NODES = (ast.Global, ast.AsyncFunctionDef, ast.AsyncFor, ast.AsyncWith, ast.Await, ast.GeneratorExp, ast.Div,
                ast.Set, ast.SetComp, ast.Import)
TREES = {path: ast.parse(path.read_text("ascii")) for path in FILES}


def nodes(*kinds):
    """All nodes of some kinds, with the files in which they stand."""
    return [(path.name, node) for path, tree in TREES.items() for node in ast.walk(tree) if isinstance(node, kinds)]


class FileTests(unittest.TestCase):
    def test_only_python_files_with_plain_names(self):
        self.assertTrue(FILES)
        for path in FILES:
            self.assertRegex(path.name, r"^[a-z0-9_]+\.py$")
            self.assertFalse((path.parent / path.stem).is_dir(), path)
            self.assertTrue((path.parent / "__init__.py").exists(), path)
            self.assertFalse(path.name.startswith(("test", "law_")), path)

    def test_characters_and_sizes(self):
        for path in FILES:
            text = path.read_text("ascii")
            self.assertRegex(text, r"\A[ -~\n]*\Z", path)
            self.assertIsNone(WORDS.search(text), path)
            lines = text.split("\n")
            self.assertLess(len(lines), 400, path)
            for at, line in enumerate(lines):
                self.assertLessEqual(len(line), 120, (path, at + 1))

    def test_functions_are_short(self):
        for name, node in nodes(ast.FunctionDef):
            self.assertLessEqual(node.end_lineno - node.lineno + 1, 40, (name, node.name))


class ImportTests(unittest.TestCase):
    def test_form(self):
        for name, node in nodes(ast.ImportFrom):
            self.assertEqual(node.level, 0, name)
            for alias in node.names:
                self.assertIsNone(alias.asname, name)
                if node.module in LIBRARY:
                    self.assertIn(alias.name, LIBRARY[node.module])
                else:
                    self.assertIn(alias.name, defined_in(node.module), (name, node.module))

    def test_no_two_files_import_from_each_other(self):
        imports = {}
        for path, tree in TREES.items():
            told = ".".join(path.relative_to(PACKAGE.parent).with_suffix("").parts)
            imports[told] = [node.module for node in ast.walk(tree) if isinstance(node, ast.ImportFrom)]
        left = dict(imports)
        while left:
            free = [name for name, wanted in left.items() if not any(module in left for module in wanted)]
            self.assertTrue(free, list(left))
            for name in free:
                del left[name]


def defined_in(module):
    """The names that a module of the package itself binds."""
    path = PACKAGE.parent / (module.replace(".", "/") + ".py")
    found = [node.name for node in TREES[path].body if isinstance(node, (ast.FunctionDef, ast.ClassDef))]
    return found + [node.targets[0].id for node in TREES[path].body if isinstance(node, ast.Assign)]


class StatementTests(unittest.TestCase):
    def test_module_level(self):
        for path, tree in TREES.items():
            bound = []
            for node in tree.body:
                self.assertIsInstance(node, (ast.Expr, ast.ImportFrom, ast.FunctionDef, ast.ClassDef, ast.Assign), path)
                if isinstance(node, ast.Expr):
                    self.assertIsInstance(node.value, ast.Constant, path)
                elif isinstance(node, ast.Assign):
                    self.assertEqual(len(node.targets), 1)
                    bound.append(node.targets[0].id)
                elif isinstance(node, ast.ImportFrom):
                    bound.extend(alias.name for alias in node.names)
                else:
                    bound.append(node.name)
            self.assertEqual(len(bound), len(set(bound)), path)

    def test_nothing_barred(self):
        self.assertEqual([(name, node.lineno) for name, node in nodes(*BANNED_NODES) if not isinstance(node, ast.Div)], [])
        self.assertEqual(nodes(ast.Div), [])
        for name, node in nodes(ast.Constant):
            self.assertNotIsInstance(node.value, (float, complex), name)
            if isinstance(node.value, str):
                self.assertNotIn("%", node.value, (name, node.lineno))

    def test_decorators(self):
        for name, node in nodes(ast.FunctionDef, ast.ClassDef):
            for decorator in node.decorator_list:
                self.assertIn(ast.unparse(decorator), ("property", "classmethod", "staticmethod"), name)

    def test_powers(self):
        for name, node in nodes(ast.BinOp):
            if isinstance(node.op, ast.Pow):
                self.assertIsInstance(node.right, ast.Constant, (name, node.lineno))
                self.assertTrue(0 <= node.right.value <= 64, (name, node.lineno))

    def test_any_and_its_like_take_no_calls_with_keywords(self):
        for name, node in nodes(ast.Call):
            if isinstance(node.func, ast.Name) and node.func.id in ALLOWED:
                for keyword in node.keywords:
                    self.assertIn(keyword.arg, ("key", "reverse", "default", "start"), (name, node.lineno))


    def test_errors_that_are_caught(self):
        own = {node.name for _, node in nodes(ast.ClassDef)}
        for name, node in nodes(ast.FunctionDef):
            handlers = [part for part in ast.walk(node) if isinstance(part, ast.ExceptHandler)]
            told = [handler.name for handler in handlers if handler.name]
            self.assertEqual(len(told), len(set(told)), (name, node.name))
            for handler in handlers:
                kinds = handler.type.elts if isinstance(handler.type, ast.Tuple) else [handler.type]
                self.assertTrue(all(kind.id in own for kind in kinds), (name, handler.lineno))

    def test_ends_of_blocks_only_assign_attributes(self):
        for name, node in nodes(ast.FunctionDef, ast.Try):
            rows = node.finalbody if isinstance(node, ast.Try) else node.body if node.name == "__exit__" else []
            for row in rows:
                self.assertIsInstance(row, ast.Assign, (name, row.lineno))
                self.assertIsInstance(row.targets[0], ast.Attribute, (name, row.lineno))
                self.assertIsInstance(row.value, (ast.Attribute, ast.Name), (name, row.lineno))


class NameTests(unittest.TestCase):
    def test_builtins(self):
        for name, node in nodes(ast.Name):
            if isinstance(node.ctx, ast.Load) and hasattr(builtins, node.id):
                self.assertIn(node.id, ALLOWED, (name, node.lineno))

    def test_bound_names(self):
        for path, tree in TREES.items():
            taken = {node.name for node in ast.walk(tree) if isinstance(node, ast.ClassDef)}
            for node in ast.walk(tree):
                if isinstance(node, ast.ImportFrom):
                    taken.update(alias.name for alias in node.names)
            for node in ast.walk(tree):
                for bound in local_names(node):
                    self.assertNotIn(bound, taken | BARRED, (path, node.lineno))
                    self.assertFalse(hasattr(builtins, bound), (path, bound))
                    self.assertRegex(bound, r"^_?[A-Za-z][A-Za-z0-9_]*$|^_$")

    def test_methods_and_attributes(self):
        own = {node.name for _, node in nodes(ast.FunctionDef)}
        for name, node in nodes(ast.Call):
            if isinstance(node.func, ast.Attribute):
                self.assertIn(node.func.attr, METHODS | own, (name, node.lineno))
        for name, node in nodes(ast.Attribute):
            self.assertFalse(node.attr.startswith("__") and node.attr != "__init__", (name, node.lineno))

    def test_double_underscore_methods(self):
        for name, node in nodes(ast.FunctionDef):
            if node.name.startswith("__"):
                self.assertIn(node.name, DOUBLE, name)

    def test_operators_do_not_assign_in_place(self):
        for name, node in nodes(ast.FunctionDef):
            if node.name in DOUBLE - {"__init__", "__setitem__"}:
                self.assertFalse([part for part in ast.walk(node) if isinstance(part, ast.AugAssign)], (name, node.name))


def local_names(node):
    """The parameters and local variables that a node binds."""
    if isinstance(node, ast.Name) and isinstance(node.ctx, ast.Store):
        return [node.id]
    if isinstance(node, ast.arg):
        return [node.arg]
    return []


if __name__ == "__main__":
    unittest.main()
