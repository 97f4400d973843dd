"""The package's own files keep to the small part of Python that the program is written in.

Looked at are the rules that can be seen from the text of one file; they bear their numbers.
"""

import ast
import pathlib
import re
import unittest

ROOT = pathlib.Path(__file__).resolve().parent.parent
PACKAGE = ROOT / "wordwishes"
FILES = sorted(PACKAGE.glob("*.py"))

BARRED_NODES = (
    ast.With, ast.Match, ast.Global, ast.Nonlocal, ast.Yield, ast.YieldFrom, ast.Await, ast.AsyncFor,
    ast.AsyncWith, ast.AsyncFunctionDef, ast.GeneratorExp, ast.NamedExpr, ast.Div, ast.MatMult, ast.Import,
)
OWN_NAMES = set(
    "len range enumerate zip min max sum abs sorted reversed int str bool bytes list tuple dict set frozenset"
    " isinstance ord repr any all divmod Exception ValueError TypeError KeyError IndexError LookupError"
    " ZeroDivisionError ArithmeticError OverflowError RuntimeError NotImplementedError AttributeError"
    " StopIteration".split()
)
METHODS = set(
    "append clear copy count endswith extend find get index insert isalnum isalpha isdigit islower isspace isupper"
    " items join keys ljust lower lstrip partition pop remove replace reverse rfind rjust rpartition rsplit rstrip"
    " setdefault split splitlines startswith strip update upper values zfill bit_length add discard sort"
    " __init__".split()
)
BARRED_WORDS = re.compile(
    r"\b(type|typing|typing_extensions|enum|Enum|IntEnum|StrEnum|Flag|IntFlag|Generic|Protocol|ABC|ABCMeta"
    r"|namedtuple|NamedTuple|TypedDict|TYPE_CHECKING|abstractmethod)\b|dataclass|overload|contextmanager"
)
BARRED_NAMES = set(
    "register mro elements open input version_info with_traceback add_note attrgetter breakpoint builtins compile"
    " delattr dir eval exec exit gc getattr globals hasattr help id importlib license locals methodcaller os quit"
    " setattr super vars chr print sys hash next map round filter iter object property float format".split()
)


def names_given(tree):
    """Every name that the file gives a value, a def's, a class's and a parameter's too."""
    given = []
    for node in ast.walk(tree):
        if isinstance(node, (ast.FunctionDef, ast.ClassDef)):
            given.append(node.name)
        elif isinstance(node, ast.arg):
            given.append(node.arg)
        elif isinstance(node, ast.Name) and isinstance(node.ctx, ast.Store):
            given.append(node.id)
    return given


def imported(tree):
    return [alias.name for node in tree.body if isinstance(node, ast.ImportFrom) for alias in node.names]


def bound_at_top(tree):
    """The names that the file's top binds, one as often as it is bound."""
    bound = imported(tree)
    for node in tree.body:
        if isinstance(node, (ast.FunctionDef, ast.ClassDef)):
            bound.append(node.name)
        elif isinstance(node, ast.Assign):
            bound.extend([target.id for target in node.targets])
    return bound


class LanguageTest(unittest.TestCase):
    def each(self):
        for path in FILES:
            text = path.read_text(encoding="utf-8")
            yield path.name, text, ast.parse(text)

    def test_l1_l14_files(self):
        self.assertIn(PACKAGE / "__init__.py", FILES)
        for path in PACKAGE.iterdir():
            if path.name != "__pycache__":
                self.assertRegex(path.name, r"\A[a-z0-9_]+\.py\Z")
                self.assertNotRegex(path.name, r"\A(law_|test|site|conftest)")

    def test_l10_l14_l17_lines_and_signs(self):
        for name, text, tree in self.each():
            self.assertRegex(text, r"\A[ -~\n]*\Z", name)
            self.assertLessEqual(len(text.splitlines()), 400, name)
            self.assertLessEqual(max([len(line) for line in text.splitlines()]), 120, name)
            self.assertIsNone(BARRED_WORDS.search(text), name)

    def test_l2_l16_imports(self):
        for name, text, tree in self.each():
            for node in ast.walk(tree):
                if isinstance(node, ast.ImportFrom):
                    self.assertIn(node, tree.body)
                    self.assertEqual(node.level, 0)
                    self.assertRegex(node.module, r"\Awordwishes\.[a-z0-9_]+\Z")
                    source = (PACKAGE / (node.module.split(".")[1] + ".py")).read_text(encoding="utf-8")
                    for alias in node.names:
                        self.assertIn(alias.name, names_given(ast.parse(source)))

    def test_l16_no_two_files_draw_from_one_another(self):
        draws = {}
        for name, text, tree in self.each():
            rows = [node for node in tree.body if isinstance(node, ast.ImportFrom)]
            draws[name] = [row.module.split(".")[1] + ".py" for row in rows]
        while draws:
            free = [name for name in draws if not any(drawn in draws for drawn in draws[name])]
            self.assertNotEqual(free, [], f"drawn in a ring: {sorted(draws)}")
            for name in free:
                del draws[name]

    def test_l3_the_top_of_a_file(self):
        for name, text, tree in self.each():
            for node in tree.body:
                plain = isinstance(node, ast.Expr) and isinstance(node.value, ast.Constant)
                stands = (ast.ImportFrom, ast.FunctionDef, ast.ClassDef, ast.Assign)
                self.assertTrue(plain or isinstance(node, stands), f"{name}: {ast.dump(node)}")

    def test_l4_l5_l10_defs_and_classes(self):
        for name, text, tree in self.each():
            for node in ast.walk(tree):
                if isinstance(node, ast.FunctionDef):
                    self.assertLessEqual(node.end_lineno - node.lineno + 1, 40, node.name)
                    self.assertIsNone(node.args.vararg)
                    self.assertIsNone(node.args.kwarg)
                    self.assertEqual(node.args.posonlyargs + node.decorator_list, [])
                if isinstance(node, ast.ClassDef):
                    self.assertIn(node, tree.body)
                    self.assertLessEqual(len(node.bases), 1)
                    self.assertEqual(node.keywords + node.decorator_list, [])
                    for row in node.body:
                        self.assertIsInstance(row, (ast.FunctionDef, ast.Expr, ast.Pass))

    def test_l6_l7_l20_l27_what_stands_nowhere(self):
        for name, text, tree in self.each():
            for node in ast.walk(tree):
                self.assertNotIsInstance(node, BARRED_NODES, name)
                if isinstance(node, (ast.For, ast.While)):
                    self.assertEqual(node.orelse, [])
                if isinstance(node, ast.Constant):
                    self.assertNotIsInstance(node.value, (float, complex))
                    self.assertFalse(isinstance(node.value, str) and "%" in node.value)
                if isinstance(node, ast.Compare) and any(isinstance(op, (ast.Is, ast.IsNot)) for op in node.ops):
                    self.assertIsInstance(node.comparators[0], ast.Constant)
                if isinstance(node, ast.FormattedValue):
                    self.assertIsNone(node.format_spec)
                if isinstance(node, ast.BinOp) and isinstance(node.op, ast.Pow):
                    self.assertIsInstance(node.right, ast.Constant)
                    self.assertIn(node.right.value, range(65))

    def test_l8_l12_l15_l17_names(self):
        for name, text, tree in self.each():
            given = names_given(tree)
            known = set(given) | set(imported(tree)) | OWN_NAMES
            for node in ast.walk(tree):
                if isinstance(node, ast.Name):
                    self.assertIn(node.id, known, name)
            for word in given:
                self.assertNotIn(word, OWN_NAMES | BARRED_NAMES | set(imported(tree)), name)
                self.assertRegex(word, r"\A([A-Za-z][A-Za-z0-9_]*|__init__)\Z", name)

    def test_l15_each_name_once(self):
        for name, text, tree in self.each():
            bound = bound_at_top(tree)
            self.assertEqual(sorted(set(bound)), sorted(bound), name)

    def test_l25_methods(self):
        own = set()
        for name, text, tree in self.each():
            for node in ast.walk(tree):
                if isinstance(node, ast.ClassDef):
                    own.update([row.name for row in node.body if isinstance(row, ast.FunctionDef)])
        for name, text, tree in self.each():
            for node in ast.walk(tree):
                if isinstance(node, ast.Call) and isinstance(node.func, ast.Attribute):
                    self.assertIn(node.func.attr, METHODS | own, name)


if __name__ == "__main__":
    unittest.main()
