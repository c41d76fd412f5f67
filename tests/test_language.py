"""The package's own files keep to the small part of Python in which the program is written.

This holds what can be seen of a file by itself or of all files beside one another; the rule's number stands by each.
"""

import ast
import builtins
import pathlib
import re
import unittest

PACKAGE = pathlib.Path(__file__).resolve().parent.parent / "signforms"

OWN_NAMES = set(
    "len range enumerate zip min max sum abs sorted reversed int str bool list tuple dict set frozenset isinstance"
    " ord repr any all divmod Exception ValueError TypeError KeyError IndexError LookupError ZeroDivisionError"
    " ArithmeticError OverflowError RuntimeError NotImplementedError AttributeError StopIteration".split()
)
OWN_METHODS = set(
    "append clear copy count endswith extend find get index insert isalnum isalpha isdigit islower isspace isupper"
    " items join keys ljust lower lstrip partition pop remove replace reverse rfind rjust rpartition rsplit rstrip"
    " setdefault split splitlines startswith strip update upper values zfill bit_length".split()
)
DUNDER_METHODS = {"__init__", "__eq__", "__repr__", "__str__", "__len__"}
STATEMENTS = (
    ast.FunctionDef, ast.ClassDef, ast.ImportFrom, ast.Assign, ast.AugAssign, ast.If, ast.While, ast.For, ast.Return,
    ast.Break, ast.Continue, ast.Pass, ast.Raise, ast.Try, ast.Expr,
)
EXPRESSIONS = (
    ast.Constant, ast.Name, ast.Attribute, ast.Subscript, ast.Slice, ast.Call, ast.BinOp, ast.UnaryOp, ast.BoolOp,
    ast.Compare, ast.IfExp, ast.List, ast.Tuple, ast.Dict, ast.Set, ast.ListComp, ast.Lambda, ast.JoinedStr,
    ast.FormattedValue,
)
UNUSED_NAMES = set(
    "register mro elements open input version_info with_traceback add_note attrgetter breakpoint builtins compile"
    " copyright credits delattr dir eval exec exit gc getattr globals hasattr help id importlib license locals"
    " methodcaller os quit setattr super vars sys format format_map".split()
)
UNUSED_WORDS = re.compile(
    r"\b(type|typing|typing_extensions|enum|Enum|IntEnum|StrEnum|Flag|IntFlag|Generic|Protocol|ABC|ABCMeta|namedtuple"
    r"|NamedTuple|TypedDict|TYPE_CHECKING|abstractmethod)\b|dataclass|overload|contextmanager"
)
UNUSED_FIELDS = set("items keys values pop update append clear extend insert remove reverse setdefault sort args".split())


def files():
    return sorted(PACKAGE.rglob("*.py"))


def trees():
    return {path: ast.parse(path.read_text(encoding="utf-8")) for path in files()}


def nodes(*kinds):
    return [(path, node) for path, tree in trees().items() for node in ast.walk(tree) if isinstance(node, kinds)]


def bound_names(tree):
    """Every name that a file binds anywhere: parameters, locals, defs, classes, imports."""
    names = set()
    for node in ast.walk(tree):
        if isinstance(node, (ast.FunctionDef, ast.ClassDef, ast.alias)):
            names.add(node.name)
        elif isinstance(node, ast.arg):
            names.add(node.arg)
        elif isinstance(node, ast.Name) and isinstance(node.ctx, ast.Store):
            names.add(node.id)
        elif isinstance(node, ast.ExceptHandler) and node.name:
            names.add(node.name)
    return names


def inner_names(tree):
    """The parameters and locals of a file's functions."""
    names = set()
    for node in ast.walk(tree):
        if isinstance(node, (ast.FunctionDef, ast.Lambda)):
            inner = list(ast.walk(node))
            names.update(part.arg for part in inner if isinstance(part, ast.arg))
            names.update(part.id for part in inner if isinstance(part, ast.Name) and isinstance(part.ctx, ast.Store))
    return names


def drawn_names(tree):
    """The classes and imports of a file."""
    return {node.name for node in ast.walk(tree) if isinstance(node, (ast.ClassDef, ast.alias))}


def top_names(tree):
    """The names that a file itself defines at its top."""
    names = [node.name for node in tree.body if isinstance(node, (ast.FunctionDef, ast.ClassDef))]
    for node in tree.body:
        if isinstance(node, ast.Assign):
            names += [target.id for target in node.targets]
    return names


class Language(unittest.TestCase):
    def where(self, path, node):
        return f"{path.name}:{getattr(node, 'lineno', '?')}"

    def none_of(self, rule, found):
        self.assertEqual([self.where(path, node) for path, node in found], [], rule)

    def test_files(self):
        kept = [path for path in PACKAGE.rglob("*") if "__pycache__" not in path.parts and path.is_file()]
        self.assertEqual(sorted(kept), files(), "L1")
        self.assertTrue((PACKAGE / "__init__.py").is_file(), "L14")
        for path in files():
            self.assertRegex(path.stem, r"^(__init__|[a-z][a-z0-9_]*)$", "L14")
            text = path.read_text(encoding="ascii")
            self.assertRegex(text, r"\A[\n -~]*\Z", "L14")
            lines = text.splitlines()
            self.assertLessEqual(len(lines), 400, "L10")
            self.assertLessEqual(max(map(len, lines)), 120, "L10")
            self.assertIsNone(UNUSED_WORDS.search(text), f"L17 {path.name}")

    def test_functions(self):
        for path, node in nodes(ast.FunctionDef):
            self.assertLessEqual(node.end_lineno - node.lineno + 1, 40, f"L10 {self.where(path, node)}")
        for path, node in nodes(ast.FunctionDef, ast.Lambda):
            args = node.args
            plain = not (args.vararg or args.kwarg or args.kwonlyargs or args.posonlyargs)
            self.assertTrue(plain, f"L4 {self.where(path, node)}")
        self.none_of("L4, L5", [(p, n) for p, n in nodes(ast.FunctionDef, ast.ClassDef) if n.decorator_list])
        self.none_of("L21", [(p, n) for p, n in nodes(ast.FunctionDef) if n.returns])
        self.none_of("L21", [(p, n) for p, n in nodes(ast.arg) if n.annotation])

    def test_statements(self):
        self.none_of("L6", [(p, n) for p, n in nodes(ast.stmt) if not isinstance(n, STATEMENTS)])
        self.none_of("L6", [(p, n) for p, n in nodes(ast.For, ast.While) if n.orelse])
        self.none_of("L6", [(p, n) for p, n in nodes(ast.Try) if n.finalbody])
        self.none_of("L6", [(p, n) for p, n in nodes(ast.ExceptHandler) if n.type is None])
        self.none_of("L6", [(p, n) for p, n in nodes(ast.Assign) if len(n.targets) > 1])
        for path, tree in trees().items():
            for node in tree.body:
                self.assertIsInstance(
                    node, (ast.Expr, ast.ImportFrom, ast.FunctionDef, ast.ClassDef, ast.Assign), f"L3 {path.name}"
                )
            remarks = [node for node in ast.walk(tree) if isinstance(node, ast.Expr) and node is not tree.body[0]]
            self.none_of("L6", [(path, node) for node in remarks if not isinstance(node.value, ast.Call)])

    def test_expressions(self):
        self.none_of("L7", [(p, n) for p, n in nodes(ast.expr) if not isinstance(n, EXPRESSIONS)])
        self.none_of("L7", [(p, n) for p, n in nodes(ast.Div, ast.MatMult)])
        constants = [(p, n) for p, n in nodes(ast.Constant) if not isinstance(n.value, (int, str, type(None)))]
        self.none_of("L7", constants)
        comps = [(p, n) for p, n in nodes(ast.ListComp) if len(n.generators) > 1 or len(n.generators[0].ifs) > 1]
        self.none_of("L7", comps)
        braces = [(p, n) for p, n in nodes(ast.FormattedValue) if not isinstance(n.value, ast.Name) or n.format_spec]
        self.none_of("L7", braces)
        self.none_of("L27", [(p, n) for p, n in nodes(ast.Constant) if isinstance(n.value, str) and "%" in n.value])
        powers = [(p, n) for p, n in nodes(ast.BinOp) if isinstance(n.op, ast.Pow)]
        self.none_of("L27", [(p, n) for p, n in powers if not isinstance(n.right, ast.Constant)])
        for path, node in nodes(ast.Compare):
            if any(isinstance(op, (ast.Is, ast.IsNot)) for op in node.ops):
                sides = [node.left, *node.comparators]
                fit = any(isinstance(n, ast.Constant) and n.value in (None, True, False) for n in sides)
                self.assertTrue(fit, f"L20 {self.where(path, node)}")

    def test_imports(self):
        stems = {path.stem: top_names(tree) for path, tree in trees().items()}
        drawn = {stem: set() for stem in stems}
        for path, node in nodes(ast.ImportFrom):
            self.assertRegex(node.module, r"^signforms\.[a-z0-9_]+$", f"L2 {self.where(path, node)}")
            self.assertEqual(node.level, 0, f"L2 {self.where(path, node)}")
            stem = node.module.split(".")[1]
            for alias in node.names:
                self.assertIn(alias.name, stems[stem], f"L16 {self.where(path, node)}")
            drawn[path.stem].add(stem)
            drawn[path.stem].add("__init__")
        while drawn:
            ready = [stem for stem in drawn if not drawn[stem] & set(drawn)]
            self.assertTrue(ready, f"L16 round: {sorted(drawn)}")
            for stem in ready:
                drawn.pop(stem)

    def test_names(self):
        for path, tree in trees().items():
            bound = bound_names(tree)
            self.assertEqual(bound & (set(dir(builtins)) | UNUSED_NAMES), set(), f"L15, L17 {path.name}")
            for name in bound - DUNDER_METHODS:
                self.assertRegex(name, r"^[A-Za-z][A-Za-z0-9_]*$", f"L12 {path.name}")
            read = [n for n in ast.walk(tree) if isinstance(n, ast.Name) and isinstance(n.ctx, ast.Load)]
            self.none_of("L8", [(path, n) for n in read if n.id not in bound | OWN_NAMES])
            top = top_names(tree)
            self.assertEqual(len(top), len(set(top)), f"L15 {path.name}")
            self.assertEqual(inner_names(tree) & drawn_names(tree), set(), f"L15 {path.name}")

    def test_classes(self):
        methods = set()
        for path, node in nodes(ast.ClassDef):
            self.assertLessEqual(len(node.bases), 1, f"L5 {node.name}")
            own = [part.name for part in node.body if isinstance(part, ast.FunctionDef)]
            self.assertEqual(len(own), len(set(own)), f"L18 {node.name}")
            methods.update(own)
            others = [part for part in node.body if not isinstance(part, (ast.FunctionDef, ast.Pass))]
            self.none_of("L5", [(path, part) for part in others])
        fields = {n.attr for p, n in nodes(ast.Attribute) if isinstance(n.ctx, ast.Store)}
        self.assertEqual(methods & fields, set(), "L18")
        self.assertEqual(fields & UNUSED_FIELDS, set(), "L26")
        used = {n.attr for p, n in nodes(ast.Attribute)}
        self.assertEqual(used & UNUSED_NAMES, set(), "L17")
        self.assertEqual(used - fields - methods - OWN_METHODS - DUNDER_METHODS, set(), "L25")


if __name__ == "__main__":
    unittest.main()
