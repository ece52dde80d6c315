"""The package keeps to the small part of Python that it is written in, as far as a look at its files can tell."""

import ast
import builtins
import pathlib
import re
import unittest

FOLDER = pathlib.Path(__file__).resolve().parent.parent / "cellfolds"
FILES = sorted(FOLDER.rglob("*.py"))

NODES = (
    ast.Module, ast.ImportFrom, ast.alias, ast.FunctionDef, ast.arguments, ast.arg, ast.ClassDef, ast.Lambda,
    ast.Assign, ast.AugAssign, ast.If, ast.While, ast.For, ast.Return, ast.Break, ast.Continue, ast.Pass, ast.Raise,
    ast.Try, ast.ExceptHandler, ast.Expr, ast.Constant, ast.List, ast.Tuple, ast.Dict, ast.BinOp, ast.UnaryOp,
    ast.BoolOp, ast.Compare, ast.IfExp, ast.Call, ast.keyword, ast.Attribute, ast.Subscript, ast.Slice, ast.Name,
    ast.ListComp, ast.comprehension, ast.JoinedStr, ast.FormattedValue, ast.Load, ast.Store, ast.operator,
    ast.unaryop, ast.boolop, ast.cmpop)

PYTHONS_NAMES = """len range enumerate zip min max sum abs sorted reversed int str bool list tuple dict set frozenset
    isinstance ord repr any all divmod Exception ValueError TypeError KeyError IndexError LookupError
    ZeroDivisionError ArithmeticError OverflowError RuntimeError NotImplementedError AttributeError
    StopIteration""".split()

PYTHONS_METHODS = """append clear copy count endswith extend find get index insert isalnum isalpha isdigit islower
    isspace isupper items join keys ljust lower lstrip partition pop remove replace reverse rfind rjust rpartition
    rsplit rstrip setdefault split splitlines startswith strip update upper values zfill bit_length""".split()

WORDS_OUT = re.compile(
    r"\b(type|typing|typing_extensions|enum|Enum|IntEnum|StrEnum|Flag|IntFlag|Generic|Protocol|ABC|ABCMeta|namedtuple"
    r"|NamedTuple|TypedDict|TYPE_CHECKING|abstractmethod)\b|dataclass|overload|contextmanager")

NAMES_OUT = """register mro elements open input version_info with_traceback add_note attrgetter breakpoint builtins
    compile copyright credits delattr dir eval exec exit gc getattr globals hasattr help id importlib license locals
    methodcaller os quit setattr super type vars sys chr""".split()

TAKEN = {name for kind in (str, int, list, dict, set, bytes, tuple) for name in dir(kind)}


def nodes(kind):
    for path in FILES:
        for node in ast.walk(ast.parse(path.read_text())):
            if isinstance(node, kind):
                yield path.name, node


def tree(path):
    return ast.parse(path.read_text())


def methods():
    return {part.name for name, node in nodes(ast.ClassDef) for part in node.body if isinstance(part, ast.FunctionDef)}


def bound_at_top(path):
    names = []
    for node in tree(path).body:
        if isinstance(node, (ast.FunctionDef, ast.ClassDef)):
            names.append(node.name)
        elif isinstance(node, ast.Assign):
            names.append(node.targets[0].id)
    return names


class Language(unittest.TestCase):
    def test_files(self):
        self.assertTrue(FILES)
        for path in FOLDER.iterdir():
            if path.name != "__pycache__":
                self.assertRegex(path.name, r"^([a-z][a-z0-9_]*|__init__)\.py$")

    def test_signs_and_sizes(self):
        for path in FILES:
            text = path.read_text()
            self.assertRegex(text, r"\A[ -~\n]*\Z", path.name)
            self.assertLessEqual(len(text.split("\n")), 400)
            self.assertLessEqual(max(len(line) for line in text.split("\n")), 120)
            self.assertIsNone(WORDS_OUT.search(text), path.name)
        for name, node in nodes(ast.FunctionDef):
            self.assertLessEqual(node.end_lineno - node.lineno + 1, 40, (name, node.name))

    def test_only_known_forms(self):
        for name, node in nodes(ast.AST):
            self.assertIsInstance(node, NODES, name)
        for name, node in nodes((ast.MatMult, ast.Div, ast.Pow)):
            self.fail(name)
        for name, node in nodes(ast.Constant):
            self.assertIn(type(node.value), (int, str, bool, type(None)), name)
            self.assertNotIn("%", str(node.value), name)

    def test_imports(self):
        for name, node in nodes(ast.ImportFrom):
            self.assertRegex(node.module, r"^cellfolds\.[a-z]+$")
            self.assertEqual((node.level, node.col_offset), (0, 0), name)
            defined = bound_at_top(FOLDER / (node.module.split(".")[1] + ".py"))
            for alias in node.names:
                self.assertIn(alias.name, defined)
                self.assertIsNone(alias.asname)

    def test_no_two_files_draw_from_one_another(self):
        drawn = {path.stem: {node.module.split(".")[1] for node in tree(path).body if isinstance(node, ast.ImportFrom)}
                 for path in FILES}
        while drawn:
            free = [name for name in drawn if not drawn[name] & set(drawn)]
            self.assertTrue(free, drawn)
            drawn = {name: drawn[name] for name in drawn if name not in free}

    def test_the_top_of_a_file(self):
        for path in FILES:
            body = tree(path).body
            self.assertIsInstance(body[0].value.value, str)
            for node in body[1:]:
                self.assertIsInstance(node, (ast.ImportFrom, ast.FunctionDef, ast.ClassDef, ast.Assign))
            self.assertEqual(len(bound_at_top(path)), len(set(bound_at_top(path))), path.name)

    def test_functions_and_classes(self):
        for name, node in nodes(ast.FunctionDef):
            given = node.args
            self.assertFalse(given.vararg or given.kwarg or given.kwonlyargs or given.posonlyargs, node.name)
            self.assertFalse(node.decorator_list or node.returns, node.name)
            for arg in given.args:
                self.assertIsNone(arg.annotation)
                self.assertNotIn(arg.arg, dir(builtins), name)
        for name, node in nodes(ast.ClassDef):
            self.assertFalse(node.decorator_list or node.keywords or len(node.bases) > 1)
            for part in node.body:
                self.assertIsInstance(part, (ast.FunctionDef, ast.Pass))

    def test_statements(self):
        for name, node in nodes(ast.Assign):
            self.assertEqual(len(node.targets), 1)
            self.assertIsInstance(node.targets[0], (ast.Name, ast.Attribute, ast.Subscript))
        for name, node in nodes((ast.For, ast.While)):
            self.assertEqual(node.orelse, [])
        for name, node in nodes(ast.Try):
            self.assertEqual(node.finalbody, [])
        for name, node in nodes(ast.ExceptHandler):
            self.assertEqual(node.type.id, "Fault")
        for name, node in nodes(ast.Expr):
            # The docstring stands in a file's first row.
            self.assertIsInstance(node.value, ast.Constant if node.lineno == 1 else ast.Call, name)

    def test_names(self):
        for name, node in nodes(ast.Name):
            self.assertFalse(node.id.startswith("_"), (name, node.id))
            self.assertNotIn(node.id, NAMES_OUT, name)
            if isinstance(node.ctx, ast.Store):
                self.assertNotIn(node.id, dir(builtins), name)
            elif node.id in dir(builtins):
                self.assertIn(node.id, PYTHONS_NAMES, name)

    def test_methods_and_values(self):
        own = methods()
        stored = {node.attr for name, node in nodes(ast.Attribute) if isinstance(node.ctx, ast.Store)}
        self.assertEqual(stored & TAKEN, set())
        self.assertEqual((own - {"__init__"}) & TAKEN, set())
        self.assertEqual(stored & own, set())
        for name, node in nodes(ast.Attribute):
            self.assertNotIn(node.attr, NAMES_OUT, name)
            self.assertIn(node.attr, own | stored | set(PYTHONS_METHODS), name)

    def test_is_stands_beside_none_true_and_false_alone(self):
        for name, node in nodes(ast.Compare):
            for sign, right in zip(node.ops, node.comparators):
                if isinstance(sign, (ast.Is, ast.IsNot)):
                    self.assertIn(right.value, (None, True, False), name)
