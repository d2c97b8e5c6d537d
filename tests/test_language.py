"""The rules of LANGUAGE.md that a short program can check. The other rules still hold."""

import ast
import builtins
import pathlib
import re
import unittest

PACKAGE = pathlib.Path(__file__).resolve().parent.parent / "xorbanks"
BUILTINS = set(
    "len range enumerate zip min max sum abs sorted reversed int str bool bytes list tuple dict set frozenset"
    " isinstance ord repr any all divmod iter next map super property staticmethod classmethod"
    " Exception ValueError TypeError KeyError IndexError LookupError ZeroDivisionError ArithmeticError"
    " OverflowError RuntimeError NotImplementedError AttributeError StopIteration NotImplemented".split())
METHODS = set(
    "append clear copy count endswith extend find get index insert isalnum isalpha isdigit islower isspace isupper"
    " items join keys ljust lower lstrip partition pop remove replace reverse rfind rjust rpartition rsplit rstrip"
    " setdefault split splitlines startswith strip update upper values zfill bit_length add discard sort"
    " __init__".split())
BARRED = set(
    "register mro elements open input law version_info with_traceback add_note attrgetter breakpoint builtins"
    " compile copyright credits delattr dir eval exec exit gc getattr globals hasattr help id importlib license"
    " locals methodcaller os quit setattr type vars sys".split())
BARRED_WORDS = re.compile(
    r"\b(typing|typing_extensions|enum|Enum|IntEnum|StrEnum|Flag|IntFlag|Generic|Protocol|ABC|ABCMeta|namedtuple"
    r"|NamedTuple|TypedDict|TYPE_CHECKING|abstractmethod)\b|dataclass|overload|contextmanager")
LIBRARY = {
    "heapq": {"heappush", "heappop", "heapify", "heapreplace", "heappushpop"},
    "math": {"gcd", "lcm", "isqrt", "comb", "perm", "factorial"},
    "itertools": {"product", "combinations", "permutations"},
}
BARRED_NODES = (
    ast.Global, ast.AsyncFunctionDef, ast.AsyncFor, ast.AsyncWith, ast.Await, ast.Import, ast.Div, ast.TryStar,
    ast.MatMult, ast.MatchClass, ast.MatchMapping)
FUNCTIONS = (ast.FunctionDef, ast.AsyncFunctionDef)
AT_MODULE_LEVEL = FUNCTIONS + (ast.ImportFrom, ast.ClassDef, ast.Assign)


def files():
    return sorted(PACKAGE.rglob("*.py"))


def trees():
    for path in files():
        yield path.name, ast.parse(path.read_text(encoding="utf-8"))


def nodes():
    for name, tree in trees():
        for node in ast.walk(tree):
            yield f"{name}:{getattr(node, 'lineno', 0)}", node


def defined_in(tree):
    """The names of functions, classes and values that a file defines itself."""
    names = {node.name for node in tree.body if isinstance(node, FUNCTIONS + (ast.ClassDef,))}
    return names | {target.id for node in tree.body if isinstance(node, ast.Assign) for target in node.targets}


class Language(unittest.TestCase):
    def test_the_folder_holds_only_python_files(self):
        for path in PACKAGE.rglob("*"):
            if "__pycache__" not in path.parts:
                self.assertRegex(path.name, r"^[a-z0-9_]+\.py$")
        self.assertTrue((PACKAGE / "__init__.py").is_file())

    def test_sizes_and_characters(self):
        for path in files():
            text = path.read_text(encoding="utf-8")
            self.assertRegex(text, r"^[ -~\n]*$", path.name)
            self.assertLessEqual(len(text.splitlines()), 399, path.name)
            self.assertLessEqual(max(map(len, text.splitlines()), default=0), 120, path.name)
        for place, node in nodes():
            if isinstance(node, FUNCTIONS):
                self.assertLessEqual(node.end_lineno - node.lineno + 1, 40, place)

    def test_imports(self):
        own = {"xorbanks." + name[:-3]: defined_in(tree) for name, tree in trees()}
        for place, node in nodes():
            if isinstance(node, ast.ImportFrom):
                self.assertEqual(node.level, 0, place)
                known = LIBRARY.get(node.module) or own.get(node.module)
                self.assertIsNotNone(known, place)
                for alias in node.names:
                    self.assertIn(alias.name, known, place)

    def test_no_import_goes_round(self):
        imports = {
            "xorbanks." + name[:-3]: {node.module for node in tree.body if isinstance(node, ast.ImportFrom)}
            for name, tree in trees()}
        while imports:
            done = [name for name, needed in imports.items() if not needed & set(imports)]
            self.assertTrue(done, f"import from each other: {sorted(imports)}")
            for name in done:
                del imports[name]

    def test_module_level(self):
        for name, tree in trees():
            for at, node in enumerate(tree.body):
                docstring = at == 0 and isinstance(node, ast.Expr) and isinstance(node.value, ast.Constant)
                self.assertTrue(docstring or isinstance(node, AT_MODULE_LEVEL), f"{name}:{node.lineno}")

    def test_statements_and_expressions(self):
        for place, node in nodes():
            self.assertNotIsInstance(node, BARRED_NODES, place)
            if isinstance(node, ast.BinOp) and isinstance(node.op, ast.Pow):
                self.assertIsInstance(node.right, ast.Constant, place)
            if isinstance(node, ast.Constant):
                self.assertNotIsInstance(node.value, (float, complex), place)
                self.assertNotIn("%", str(node.value), place)

    def test_no_percent_sign_in_a_formatted_string(self):
        for path in files():
            text = path.read_text(encoding="utf-8")
            for node in ast.walk(ast.parse(text)):
                if isinstance(node, ast.JoinedStr):
                    self.assertNotIn("%", ast.get_source_segment(text, node), f"{path.name}:{node.lineno}")

    def test_builtins(self):
        for place, node in nodes():
            if isinstance(node, ast.Name) and hasattr(builtins, node.id):
                self.assertIn(node.id, BUILTINS, place)
                self.assertIsInstance(node.ctx, ast.Load, place)
            if isinstance(node, ast.arg):
                self.assertFalse(hasattr(builtins, node.arg), place)

    def test_methods(self):
        own = {node.name for _, node in nodes() if isinstance(node, FUNCTIONS)}
        for place, node in nodes():
            if isinstance(node, ast.Call) and isinstance(node.func, ast.Attribute):
                self.assertIn(node.func.attr, METHODS | own, place)

    def test_names(self):
        for place, node in nodes():
            for field in ("id", "name", "arg"):
                name = getattr(node, field, None)
                if isinstance(name, str):
                    self.assertNotIn(name, BARRED, place)
                    self.assertFalse(name.startswith("_wall"), place)
        for path in files():
            self.assertNotRegex(path.read_text(encoding="utf-8"), BARRED_WORDS)

    def test_no_local_name_hides_an_import_or_a_class(self):
        for name, tree in trees():
            taken = {alias.name for node in tree.body if isinstance(node, ast.ImportFrom) for alias in node.names}
            taken |= {node.name for node in tree.body if isinstance(node, ast.ClassDef)}
            for node in ast.walk(tree):
                if isinstance(node, ast.arg):
                    self.assertNotIn(node.arg, taken, f"{name}:{node.lineno}")
                if isinstance(node, ast.Name) and isinstance(node.ctx, ast.Store):
                    self.assertNotIn(node.id, taken, f"{name}:{node.lineno}")

    def test_decorators(self):
        for place, node in nodes():
            if isinstance(node, ast.ClassDef):
                self.assertEqual(node.decorator_list, [], place)
            if isinstance(node, FUNCTIONS):
                for decorator in node.decorator_list:
                    shown = ast.unparse(decorator)
                    self.assertRegex(shown, r"^(property|staticmethod|classmethod|\w+\.setter)$", place)


if __name__ == "__main__":
    unittest.main()
