"""The form of the package's files: the part of ../shared/LANGUAGE.md's rules that can be read off the text."""

import ast
import builtins
import pathlib
import re
import unittest

PACKAGE = pathlib.Path(__file__).resolve().parent.parent / "helmsum"

STATEMENTS = (
    ast.Assign, ast.AugAssign, ast.If, ast.While, ast.For, ast.Return, ast.Break, ast.Continue, ast.Pass, ast.Raise,
    ast.Try, ast.Expr, ast.FunctionDef, ast.ClassDef, ast.ImportFrom,
)
EXPRESSIONS = (
    ast.Constant, ast.List, ast.Tuple, ast.Dict, ast.BinOp, ast.UnaryOp, ast.BoolOp, ast.Compare, ast.IfExp, ast.Call,
    ast.Attribute, ast.Subscript, ast.Slice, ast.ListComp, ast.Name, ast.Lambda, ast.JoinedStr, ast.FormattedValue,
)
OWN_NAMES = set(
    "len range enumerate zip min max sum abs sorted reversed int str bool list tuple dict set frozenset isinstance ord"
    " repr any all divmod Exception ValueError TypeError KeyError IndexError LookupError ZeroDivisionError"
    " ArithmeticError OverflowError RuntimeError NotImplementedError StopIteration".split()
)
METHODS = set(
    "append clear copy count endswith extend find get index insert isalnum isalpha isdigit islower isspace isupper"
    " items join keys ljust lower lstrip partition pop remove replace reverse rfind rjust rpartition rsplit rstrip"
    " setdefault split splitlines startswith strip update upper values zfill bit_length".split()
)
TWO_UNDERSCORES = {"__init__", "__eq__", "__repr__", "__str__", "__len__"}
NOT_NAMES = set(
    "register mro elements open input version_info with_traceback add_note attrgetter breakpoint builtins compile"
    " copyright credits delattr dir eval exec exit gc getattr globals hasattr help id importlib license locals"
    " methodcaller os quit setattr super type vars sys __name__ format format_map args encode".split()
)
NOT_WORDS = re.compile(
    r"\b(type|typing|typing_extensions|enum|Enum|IntEnum|StrEnum|Flag|IntFlag|Generic|Protocol|ABC|ABCMeta|namedtuple"
    r"|NamedTuple|TypedDict|TYPE_CHECKING|abstractmethod)\b|dataclass|overload|contextmanager"
)
KEPT_FOR_WALKS = {"zip", "enumerate", "reversed", "range", "items", "keys", "values"}


def files():
    return sorted(PACKAGE.glob("*.py"))


def trees():
    return [(path.name, ast.parse(path.read_text(encoding="ascii"))) for path in files()]


def nodes(*kinds):
    return [(name, node) for name, tree in trees() for node in ast.walk(tree) if isinstance(node, kinds)]


def called_name(node):
    if isinstance(node, ast.Call) and isinstance(node.func, ast.Name):
        return node.func.id
    if isinstance(node, ast.Call) and isinstance(node.func, ast.Attribute):
        return node.func.attr
    return None


class Form(unittest.TestCase):
    def refuse(self, name, node, why):
        self.fail(f"{name}:{node.lineno}: {why}")

    def test_files(self):
        left = [path.name for path in PACKAGE.iterdir() if path.name != "__pycache__" and path.suffix != ".py"]
        self.assertEqual(left, [])
        for path in files():
            self.assertRegex(path.name, r"^([a-z][a-z0-9_]*|__init__|__main__)\.py$")
            self.assertNotIn(path.stem, dir(builtins))
        self.assertTrue((PACKAGE / "__init__.py").is_file())

    def test_signs_words_and_sizes(self):
        for path in files():
            text = path.read_text(encoding="utf-8")
            self.assertTrue(all(sign == "\n" or " " <= sign <= "~" for sign in text), path.name)
            self.assertIsNone(NOT_WORDS.search(text), path.name)
            self.assertLessEqual(len(text.splitlines()), 400, path.name)
            self.assertLessEqual(max(map(len, text.splitlines())), 120, path.name)
        for name, node in nodes(ast.FunctionDef):
            if node.end_lineno - node.lineno + 1 > 40:
                self.refuse(name, node, "more than 40 lines")

    def test_statements_and_expressions(self):
        for name, node in nodes(ast.stmt):
            if not isinstance(node, STATEMENTS):
                self.refuse(name, node, "a statement that isn't used here")
            if isinstance(node, (ast.For, ast.While)) and node.orelse:
                self.refuse(name, node, "an else behind a loop")
            if isinstance(node, ast.Try) and node.finalbody:
                self.refuse(name, node, "finally")
            if isinstance(node, ast.Assign) and len(node.targets) != 1:
                self.refuse(name, node, "several targets")
        for name, node in nodes(ast.expr):
            if not isinstance(node, EXPRESSIONS) and called_name(node) is None:
                self.refuse(name, node, "an expression that isn't used here")
            if isinstance(node, ast.Constant) and not isinstance(node.value, (int, str, type(None))):
                self.refuse(name, node, "a value that isn't used here")
            if isinstance(node, ast.BinOp) and isinstance(node.op, (ast.Div, ast.MatMult)):
                self.refuse(name, node, "a sign that isn't used here")
            if isinstance(node, ast.BinOp) and isinstance(node.op, ast.Pow):
                if not isinstance(node.right, ast.Constant) or not 0 <= node.right.value <= 64:
                    self.refuse(name, node, "an exponent that isn't written")
            if isinstance(node, ast.ListComp):
                if len(node.generators) != 1 or len(node.generators[0].ifs) > 1:
                    self.refuse(name, node, "more than one for and one if")
            if isinstance(node, ast.Constant) and isinstance(node.value, str) and "%" in node.value:
                self.refuse(name, node, "a text with a sign that isn't used here")

    def test_is_stands_beside_none_and_truths_alone(self):
        for name, node in nodes(ast.Compare):
            for sign, right in zip(node.ops, node.comparators):
                if isinstance(sign, (ast.Is, ast.IsNot)):
                    if not isinstance(right, ast.Constant) or right.value not in (None, True, False):
                        self.refuse(name, node, "is")

    def test_the_top_of_a_file(self):
        for name, tree in trees():
            self.assertIsNotNone(ast.get_docstring(tree), name)
            bound = []
            for node in tree.body[1:]:
                if not isinstance(node, (ast.ImportFrom, ast.FunctionDef, ast.ClassDef, ast.Assign)):
                    self.refuse(name, node, "not for a file's top")
                if isinstance(node, ast.ImportFrom):
                    bound.extend(part.name for part in node.names)
                elif isinstance(node, ast.Assign):
                    bound.append(node.targets[0].id)
                else:
                    bound.append(node.name)
            self.assertEqual(len(bound), len(set(bound)), name)

    def test_imports_draw_names_from_the_files_that_define_them_and_go_no_round(self):
        drawn = {}
        for name, tree in trees():
            drawn["helmsum." + name[:-3]] = []
            for node in ast.walk(tree):
                if isinstance(node, ast.ImportFrom):
                    self.assertEqual(node.level, 0, name)
                    self.assertRegex(node.module, r"^helmsum\.[a-z]", name)
                    drawn["helmsum." + name[:-3]].append(node.module)
                    defined = self.defined_in(node.module)
                    for part in node.names:
                        self.assertIsNone(part.asname)
                        self.assertIn(part.name, defined)
        self.assertEqual(drawn["helmsum.__init__"], [])
        while drawn:
            ends = [name for name in drawn if not any(other in drawn for other in drawn[name])]
            self.assertNotEqual(ends, [], "files draw from one another in a round")
            for name in ends:
                del drawn[name]

    def defined_in(self, module):
        tree = dict(trees())[module.split(".")[1] + ".py"]
        names = [node.name for node in tree.body if isinstance(node, (ast.FunctionDef, ast.ClassDef))]
        return names + [node.targets[0].id for node in tree.body if isinstance(node, ast.Assign)]

    def test_functions_and_classes(self):
        for name, node in nodes(ast.FunctionDef, ast.Lambda):
            parts = node.args
            if parts.vararg or parts.kwarg or parts.kwonlyargs or parts.posonlyargs:
                self.refuse(name, node, "parameters that aren't plain")
            if isinstance(node, ast.FunctionDef) and (node.decorator_list or node.returns):
                self.refuse(name, node, "a decorator or an annotation")
        for name, node in nodes(ast.ClassDef):
            if node.decorator_list or node.keywords or len(node.bases) > 1:
                self.refuse(name, node, "not a plain class")
            for part in node.body[1:]:
                if not isinstance(part, ast.FunctionDef):
                    self.refuse(name, part, "not a method")

    def test_names(self):
        for name, tree in trees():
            classes = [node.name for node in tree.body if isinstance(node, ast.ClassDef)]
            drawn = [part.name for node in tree.body if isinstance(node, ast.ImportFrom) for part in node.names]
            for node in ast.walk(tree):
                if isinstance(node, ast.arg):
                    self.check_bound(name, node, node.arg, classes + drawn)
                elif isinstance(node, ast.Name) and isinstance(node.ctx, ast.Store):
                    self.check_bound(name, node, node.id, classes + drawn)
                elif isinstance(node, ast.Name) and node.id in dir(builtins) and node.id not in OWN_NAMES:
                    self.refuse(name, node, f"the name {node.id}")
                elif isinstance(node, ast.FunctionDef) and node.name not in TWO_UNDERSCORES:
                    self.check_bound(name, node, node.name, [])

    def check_bound(self, name, node, word, taken):
        if not re.fullmatch(r"[A-Za-z][A-Za-z0-9_]*", word) or word in NOT_NAMES:
            self.refuse(name, node, f"the name {word}")
        if word in taken or word in dir(builtins):
            self.refuse(name, node, f"the name {word} has a meaning already")

    def test_methods_and_values(self):
        methods = {part.name for name, node in nodes(ast.ClassDef) for part in node.body
                   if isinstance(part, ast.FunctionDef)}
        stored = {node.attr for name, node in nodes(ast.Attribute) if isinstance(node.ctx, ast.Store)}
        self.assertEqual(methods & stored, set())
        for name, node in nodes(ast.Attribute):
            if node.attr not in methods | stored | METHODS | {"__init__"}:
                self.refuse(name, node, f"the method or value {node.attr}")
        self.assertEqual((methods | stored) & (NOT_NAMES | {"items", "keys", "values", "sort"}), set())

    def test_walks_are_not_kept(self):
        for name, node in nodes(ast.Assign, ast.Return):
            if called_name(node.value) in KEPT_FOR_WALKS:
                self.refuse(name, node, "a walk is kept")

    def test_errors_are_taken_by_name(self):
        for name, node in nodes(ast.ExceptHandler):
            if node.type is None or ast.unparse(node.type) in ("Exception", "TypeError"):
                self.refuse(name, node, "an error that isn't taken by its name")


if __name__ == "__main__":
    unittest.main()
