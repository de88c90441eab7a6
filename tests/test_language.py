"""The package keeps to its part of Python, as far as this looks.

Looked at, some of them in part: L1, L2, L4 to L8, L10, L12, L14 to L20, L25, L27 of LANGUAGE.md.
Not looked at, so to be kept by reading: L3, L9, L11, L13, L21 to L24, L26, L28.
"""

import ast
import builtins
import pathlib
import re
import unittest

PACKAGE = pathlib.Path(__file__).resolve().parent.parent / "momentloom"

STATEMENTS = (
    ast.Assign, ast.AugAssign, ast.If, ast.While, ast.For, ast.Return, ast.Break, ast.Continue, ast.Pass,
    ast.Raise, ast.Try, ast.Expr, ast.FunctionDef, ast.ClassDef, ast.ImportFrom)
EXPRESSIONS = (
    ast.Constant, ast.List, ast.Tuple, ast.Dict, ast.Set, ast.BinOp, ast.UnaryOp, ast.BoolOp, ast.Compare, ast.IfExp,
    ast.Call, ast.Attribute, ast.Subscript, ast.Slice, ast.ListComp, ast.JoinedStr, ast.FormattedValue, ast.Name,
    ast.Lambda)
OWN_NAMES = (
    "len range enumerate zip min max sum abs sorted reversed int str bool list tuple dict set frozenset isinstance "
    "ord repr any all divmod Exception ValueError TypeError KeyError IndexError LookupError ZeroDivisionError "
    "ArithmeticError OverflowError RuntimeError NotImplementedError AttributeError StopIteration").split()
METHODS = (
    "append clear copy count endswith extend find get index insert isalnum isalpha isdigit islower isspace isupper "
    "items join keys ljust lower lstrip partition pop remove replace reverse rfind rjust rpartition rsplit rstrip "
    "setdefault split splitlines startswith strip update upper values zfill bit_length add discard").split()
DOUBLE = "__init__ __eq__ __repr__ __str__ __len__ __all__ __version__".split()
BANNED_NAMES = "register mro elements open input version_info with_traceback add_note format format_map args".split()
BANNED_WORDS = re.compile(
    r"\b(type|typing|typing_extensions|enum|Enum|IntEnum|StrEnum|Flag|IntFlag|Generic|Protocol|ABC|ABCMeta|namedtuple"
    r"|NamedTuple|TypedDict|TYPE_CHECKING|abstractmethod)\b|dataclass|overload|contextmanager")
PLAIN = re.compile(r"[A-Za-z][A-Za-z0-9_]*")
PYTHONS_METHODS = [name for kind in (str, int, list, dict, set, tuple, bytes) for name in dir(kind)]


def breaches_of_text(source):
    """What is wrong with the signs and rows of a file."""
    found = []
    rows = source.split("\n")
    if len(rows) > 401:
        found.append("L10 file too long")
    for place, row in enumerate(rows, start=1):
        if len(row) > 120:
            found.append(f"L10 row {place} too long")
        if not all(" " <= sign <= "~" for sign in row):
            found.append(f"L14 row {place} has a sign that is out")
        if BANNED_WORDS.search(row):
            found.append(f"L17 row {place} has a word that is out")
    return found


def breach_of_statement(node):
    if not isinstance(node, STATEMENTS):
        return "L6 statement"
    if isinstance(node, ast.FunctionDef):
        spread = node.args.vararg or node.args.kwarg or node.args.kwonlyargs or node.args.posonlyargs
        if spread or node.decorator_list:
            return "L4 function"
        if node.end_lineno - node.lineno >= 40:
            return "L10 function too long"
    if isinstance(node, ast.ClassDef) and (len(node.bases) > 1 or node.keywords or node.decorator_list):
        return "L5 class"
    if isinstance(node, ast.ImportFrom) and (node.level or not node.module.startswith("momentloom.")):
        return "L2 import"
    if isinstance(node, (ast.For, ast.While)) and node.orelse:
        return "L6 else behind a loop"
    if isinstance(node, ast.Try) and node.finalbody:
        return "L6 finally"
    if isinstance(node, ast.Assign) and len(node.targets) > 1:
        return "L6 targets"
    if isinstance(node, ast.Raise) and not isinstance(node.exc, ast.Call):
        return "L19 raise"
    return None


def breach_of_expression(node):
    if not isinstance(node, EXPRESSIONS):
        return "L7 expression"
    if isinstance(node, ast.Constant) and isinstance(node.value, (float, complex, bytes)):
        return "L7 value"
    if isinstance(node, ast.Constant) and isinstance(node.value, str) and "%" in node.value:
        return "L27 text"
    if isinstance(node, ast.BinOp):
        if isinstance(node.op, (ast.Div, ast.MatMult)):
            return "L7 operator"
        if isinstance(node.op, ast.Pow) and not isinstance(node.right, ast.Constant):
            return "L27 exponent"
    if isinstance(node, ast.FormattedValue) and (node.format_spec or not isinstance(node.value, ast.Name)):
        return "L7 f-string"
    if isinstance(node, ast.ListComp) and (len(node.generators) > 1 or len(node.generators[0].ifs) > 1):
        return "L7 comprehension"
    if isinstance(node, ast.Compare) and any(isinstance(op, (ast.Is, ast.IsNot)) for op in node.ops):
        if not (isinstance(node.comparators[0], ast.Constant) and node.comparators[0].value in (None, True, False)):
            return "L20 is"
    if isinstance(node, ast.Name):
        return breach_of_name(node)
    if isinstance(node, ast.Attribute) and node.attr in PYTHONS_METHODS and node.attr not in METHODS + DOUBLE:
        return "L25 method"
    return None


def breach_of_name(node):
    if node.id in DOUBLE:
        return None
    if not PLAIN.fullmatch(node.id):
        return "L12 name"
    if hasattr(builtins, node.id) and (node.id not in OWN_NAMES or not isinstance(node.ctx, ast.Load)):
        return "L8 name"
    return None


def names_given(node):
    """The names that a node gives to something, but those of ast.Name."""
    if isinstance(node, (ast.FunctionDef, ast.ClassDef)):
        return [node.name]
    if isinstance(node, ast.arg):
        return [node.arg]
    if isinstance(node, ast.Attribute):
        return [node.attr]
    if isinstance(node, ast.ExceptHandler) and node.name:
        return [node.name]
    if isinstance(node, ast.alias):
        return [node.name] + ([node.asname] if node.asname else [])
    return []


def breach_of_names(node):
    for name in names_given(node):
        if name in BANNED_NAMES:
            return "L17 name"
        if name not in DOUBLE and not PLAIN.fullmatch(name):
            return "L12 name"
        if not isinstance(node, (ast.Attribute, ast.FunctionDef)) and hasattr(builtins, name):
            return "L15 name"
    if isinstance(node, ast.ExceptHandler):
        if not isinstance(node.type, (ast.Name, ast.Tuple)):
            return "L6 except"
        if getattr(node.type, "id", "") in ("Exception", "TypeError"):
            return "L19 except"
    return None


def breaches_of(source):
    """All that is wrong with a file, as texts."""
    found = breaches_of_text(source)
    for node in ast.walk(ast.parse(source)):
        said = [breach_of_names(node)]
        if isinstance(node, ast.stmt):
            said.append(breach_of_statement(node))
        if isinstance(node, ast.expr):
            said.append(breach_of_expression(node))
        found.extend([f"{text} at {node.lineno}" for text in said if text])
    return found


def files():
    return sorted(path for path in PACKAGE.rglob("*") if "__pycache__" not in path.parts)


def trees():
    return {f"momentloom.{path.stem}": ast.parse(path.read_text(encoding="utf-8")) for path in files()}


def imports_of(tree):
    return [node for node in ast.walk(tree) if isinstance(node, ast.ImportFrom)]


def defined_in(tree):
    names = [node.name for node in tree.body if isinstance(node, (ast.FunctionDef, ast.ClassDef))]
    given = [node.targets[0].id for node in tree.body if isinstance(node, ast.Assign)]
    return names + given


class Package(unittest.TestCase):
    def test_only_plain_files(self):
        self.assertIn("__init__.py", [path.name for path in files()])
        for path in files():
            self.assertRegex(path.name, r"^([a-z][a-z0-9_]*|__init__|__main__)\.py$")

    def test_each_file_keeps_to_the_rules(self):
        for path in files():
            with self.subTest(file=path.name):
                self.assertEqual(breaches_of(path.read_text(encoding="utf-8")), [])

    def test_imports_stand_at_the_top_and_draw_from_the_defining_file(self):
        found = trees()
        for name, tree in found.items():
            for node in imports_of(tree):
                with self.subTest(file=name, row=node.lineno):
                    self.assertIn(node, tree.body)
                    for alias in node.names:
                        self.assertIn(alias.name, defined_in(found[node.module]))

    def test_no_two_files_draw_from_one_another(self):
        draws = {name: {node.module for node in imports_of(tree)} for name, tree in trees().items()}
        while draws:
            free = [name for name in draws if not draws[name] & set(draws)]
            self.assertTrue(free, f"a ring of imports among {sorted(draws)}")
            for name in free:
                del draws[name]

    def test_no_name_is_a_method_here_and_a_value_there(self):
        methods = set()
        given = set()
        for tree in trees().values():
            for node in ast.walk(tree):
                if isinstance(node, ast.ClassDef):
                    methods.update(part.name for part in node.body if isinstance(part, ast.FunctionDef))
                if isinstance(node, ast.Attribute) and isinstance(node.ctx, ast.Store):
                    given.add(node.attr)
        self.assertEqual(methods & given, set())


class Looker(unittest.TestCase):
    """The rules above would pass anything, if they saw nothing."""

    def test_breaches_are_seen(self):
        for source in (
                "import os", "from os import path", "from . import model", "x = 1.5", "x = 1 / 2", "x = b''",
                "def f(*rest):\n    pass", "def f(x):\n    del x", "x = y = 1", "x = {k: 1 for k in []}",
                "x = [k for k in (j for j in [])]", "def f(x):\n    return f'{x.y}'", "x = 2 ** n", "x = 'a %'",
                "def f(x):\n    return x is 3", "def f(x):\n    x.sort()", "x = getattr", "len = 3", "private_ = _x",
                "x = 'type'", "class Data:\n    def format(self):\n        pass", "def f(id):\n    pass",
                "try:\n    f()\nexcept Exception:\n    pass", "try:\n    f()\nexcept:\n    pass",
                "raise ValueError", "x = 1\t", "x = '\u00e4'", "# " + "x" * 120, "\n" * 402,
                "def f():\n" + "    f()\n" * 40, "with x:\n    pass", "x = chr(3)"):
            with self.subTest(source=source[:40]):
                self.assertNotEqual(breaches_of(source), [])

    def test_plain_code_passes(self):
        source = (
            "\"\"\"Words.\"\"\"\n\nfrom momentloom.errors import Great\n\n\ndef f(x):\n    y = [k for k in x if k]\n"
            "    if x is None:\n        raise Great(f\"{x}\")\n    y.append(10 ** 15)\n    return sorted(y)\n")
        self.assertEqual(breaches_of(source), [])


if __name__ == "__main__":
    unittest.main()
