"""The rules of ../shared/LANGUAGE.md that can be seen node by node, at the package's files."""

import ast
import builtins
import pathlib
import re
import unittest

PACKAGE = pathlib.Path(__file__).resolve().parent.parent / "throughlines"

BUILTINS = set(
    "len range enumerate zip min max sum abs sorted reversed int str bool bytes list tuple dict set frozenset "
    "isinstance ord repr any all divmod iter next super property staticmethod classmethod Exception ValueError "
    "TypeError KeyError IndexError LookupError ZeroDivisionError ArithmeticError OverflowError RuntimeError "
    "NotImplementedError AttributeError StopIteration NotImplemented object".split()
)
STATEMENTS = (
    ast.Assign, ast.AugAssign, ast.AnnAssign, ast.If, ast.While, ast.For, ast.Return, ast.Break, ast.Continue,
    ast.Pass, ast.Raise, ast.Assert, ast.Delete, ast.Nonlocal, ast.Match, ast.With, ast.Try, ast.Expr,
    ast.FunctionDef, ast.ClassDef, ast.ImportFrom,
)
MODULE_LEVEL = (ast.ImportFrom, ast.FunctionDef, ast.ClassDef, ast.Assign)
METHODS = set(
    "append clear copy count endswith extend find get index insert isalnum isalpha isdigit islower isspace isupper "
    "items join keys ljust lower lstrip partition pop remove replace reverse rfind rjust rpartition rsplit rstrip "
    "setdefault split splitlines startswith strip update upper values zfill bit_length title capitalize swapcase "
    "casefold center expandtabs removeprefix removesuffix rindex isascii isdecimal isnumeric istitle isidentifier "
    "isprintable encode add discard sort".split()
)
BARRED_WORDS = re.compile(
    r"\b(type|typing|typing_extensions|enum|Enum|IntEnum|StrEnum|Flag|IntFlag|Generic|Protocol|ABC|ABCMeta|"
    r"namedtuple|NamedTuple|TypedDict|TYPE_CHECKING|abstractmethod)\b|dataclass|overload|contextmanager"
)
BARRED_NAMES = set(
    "register mro elements open input version_info with_traceback add_note attrgetter breakpoint builtins compile "
    "copyright credits delattr dir eval exec exit gc getattr globals hasattr help id importlib license locals "
    "methodcaller os quit setattr type vars sys".split()
)


class Source:
    """A file of the package, its text and its nodes."""

    def __init__(self, path):
        self.path = path
        self.text = path.read_text("utf-8")
        self.body = ast.parse(self.text).body
        self.nodes = [one for node in self.body for one in ast.walk(node)]


SOURCES = {path.stem: Source(path) for path in sorted(PACKAGE.glob("*.py"))}


def bound_names(node):
    """The names that a node itself gives a meaning."""
    if isinstance(node, (ast.FunctionDef, ast.ClassDef)):
        return [node.name]
    if isinstance(node, ast.arg):
        return [node.arg]
    if isinstance(node, ast.ImportFrom):
        return [alias.asname or alias.name for alias in node.names]
    if isinstance(node, ast.Name) and isinstance(node.ctx, ast.Store):
        return [node.id]
    if isinstance(node, ast.Attribute) and isinstance(node.ctx, ast.Store):
        return [node.attr]
    return []


def module_names(source):
    """The names bound at module level, as often as they are."""
    found = []
    for node in source.body:
        for one in ast.walk(node) if isinstance(node, ast.Assign) else [node]:
            found += bound_names(one)
    return found


def is_dunder(name):
    return name.startswith("__") and name.endswith("__")


class Language(unittest.TestCase):
    def rule(self, name, broken):
        """No node of the package breaks it."""
        found = [(source.path.name, node.lineno, ast.unparse(node)[:80])
                 for source in SOURCES.values() for node in source.nodes
                 if hasattr(node, "lineno") and broken(node)]
        self.assertEqual(found, [], name)

    def test_files(self):
        for path in PACKAGE.iterdir():
            if path.name == "__pycache__":
                continue
            self.assertRegex(path.name, r"\A(__init__|__main__|[a-z][a-z0-9_]*)\.py\Z")
            self.assertTrue(is_dunder(path.stem) or not hasattr(builtins, path.stem), path.name)
        self.assertIn("__init__", SOURCES)

    def test_sizes_and_characters(self):
        for source in SOURCES.values():
            rows = source.text.split("\n")
            self.assertLessEqual(len(rows), 400, source.path)
            self.assertLessEqual(max(len(row) for row in rows), 120, source.path)
            self.assertRegex(source.text, r"\A[ -~\n]*\Z")
            self.assertIsNone(BARRED_WORDS.search(source.text), source.path)
        self.rule("L10", lambda node: isinstance(node, ast.FunctionDef) and node.end_lineno - node.lineno >= 40)

    def test_names(self):
        def broken(node):
            for name in bound_names(node):
                if is_dunder(name) and isinstance(node, ast.FunctionDef):
                    continue
                if name in BARRED_NAMES or not re.fullmatch("[A-Za-z][A-Za-z0-9_]*", name):
                    return True
                if not isinstance(node, ast.Attribute) and hasattr(builtins, name):
                    return True
            return False
        self.rule("L8, L12, L15, L17", broken)

    def test_no_local_name_is_that_of_a_class_or_an_import(self):
        for source in SOURCES.values():
            barred = [name for node in source.body if isinstance(node, (ast.ImportFrom, ast.ClassDef))
                      for name in bound_names(node)]
            for node in source.nodes:
                if isinstance(node, (ast.arg, ast.Name)):
                    for name in bound_names(node):
                        self.assertNotIn(name, barred, source.path)

    def test_builtins_and_methods(self):
        own = {node.name for source in SOURCES.values() for node in source.nodes
               if isinstance(node, ast.FunctionDef)}
        self.rule("L8", lambda node: isinstance(node, ast.Name) and hasattr(builtins, node.id)
                  and node.id not in BUILTINS)
        self.rule("L25", lambda node: isinstance(node, ast.Call) and isinstance(node.func, ast.Attribute)
                  and node.func.attr not in METHODS | own)

    def test_imports(self):
        self.rule("L2, L16", lambda node: isinstance(node, ast.Import))
        reached = {}
        for stem, source in SOURCES.items():
            wanted = [node for node in source.nodes if isinstance(node, ast.ImportFrom)]
            self.assertTrue(all(node in source.body and node.level == 0 for node in wanted), source.path)
            for node in wanted:
                package, dot, module = node.module.partition(".")
                self.assertEqual(package, "throughlines", source.path)
                defined = [name for one in SOURCES[module].body if not isinstance(one, ast.ImportFrom)
                           for inner in [one, *getattr(one, "targets", [])] for name in bound_names(inner)]
                for alias in node.names:
                    self.assertIn(alias.name, defined, source.path)
            reached[stem] = [node.module.partition(".")[2] for node in wanted]
        while reached:
            free = [stem for stem in reached if not reached[stem]]
            self.assertTrue(free, f"files import from each other: {sorted(reached)}")
            reached = {stem: [one for one in reached[stem] if one not in free]
                       for stem in reached if stem not in free}

    def test_statements_and_values(self):
        self.rule("L6", lambda node: isinstance(node, ast.stmt) and not isinstance(node, STATEMENTS))
        self.rule("L4", lambda node: isinstance(node, ast.FunctionDef) and node.args.posonlyargs)
        self.rule("L7", lambda node: isinstance(node, ast.Constant) and isinstance(node.value, (float, complex)))
        self.rule("L7", lambda node: isinstance(node, (ast.BinOp, ast.AugAssign)) and isinstance(node.op, ast.Div))
        self.rule("L27", lambda node: isinstance(node, ast.Constant) and "%" in str(node.value))
        self.rule("L20", lambda node: isinstance(node, ast.Compare) and any(
            isinstance(sign, (ast.Is, ast.IsNot)) and ast.unparse(right) not in ("None", "True", "False")
            for sign, right in zip(node.ops, node.comparators)))

    def test_module_level(self):
        for source in SOURCES.values():
            names = module_names(source)
            self.assertEqual(len(names), len(set(names)), source.path)
            for at, node in enumerate(source.body):
                docstring = at == 0 and isinstance(node, ast.Expr) and isinstance(node.value, ast.Constant)
                self.assertTrue(docstring or isinstance(node, MODULE_LEVEL), source.path)


if __name__ == "__main__":
    unittest.main()
