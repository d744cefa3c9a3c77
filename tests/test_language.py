"""The package keeps to its small part of Python: those rules that a test can see, by their numbers."""

import ast
import builtins
import pathlib
import re
import unittest

PACKAGE = pathlib.Path(__file__).resolve().parent.parent / "tienumbers"

ALLOWED_NAMES = set(
    "len range enumerate zip min max sum abs sorted reversed int str bool list tuple dict set frozenset isinstance "
    "ord repr any all divmod Exception ValueError TypeError KeyError IndexError LookupError ZeroDivisionError "
    "ArithmeticError OverflowError RuntimeError NotImplementedError AttributeError StopIteration".split()
)

ALLOWED_METHODS = set(
    "append clear copy count endswith extend find get index insert isalnum isalpha isdigit islower isspace isupper "
    "items join keys ljust lower lstrip partition pop remove replace reverse rfind rjust rpartition rsplit rstrip "
    "setdefault split splitlines startswith strip update upper values zfill bit_length __init__".split()
)

ALLOWED_DOUBLE = {"__init__", "__eq__", "__repr__", "__str__", "__len__"}

BARRED_WORDS = re.compile(
    r"\b(type|typing|typing_extensions|enum|Enum|IntEnum|StrEnum|Flag|IntFlag|Generic|Protocol|ABC|ABCMeta|namedtuple"
    r"|NamedTuple|TypedDict|TYPE_CHECKING|abstractmethod)\b|dataclass|overload|contextmanager"
)

BARRED_NODES = (
    ast.With, ast.Match, ast.Delete, ast.Global, ast.Nonlocal, ast.Assert, ast.Yield, ast.YieldFrom, ast.Await,
    ast.AsyncFunctionDef, ast.AsyncFor, ast.AsyncWith, ast.SetComp, ast.DictComp, ast.GeneratorExp, ast.NamedExpr,
    ast.Starred, ast.Div, ast.Import, ast.AnnAssign,
)


def files():
    return sorted(PACKAGE.rglob("*.py"))


def trees():
    return [(path.name, ast.parse(path.read_text(encoding="utf-8"))) for path in files()]


def nodes():
    return [(name, node) for name, tree in trees() for node in ast.walk(tree)]


def bound_names(tree):
    for node in ast.walk(tree):
        if isinstance(node, (ast.FunctionDef, ast.ClassDef)):
            yield node.name
        elif isinstance(node, ast.arg):
            yield node.arg
        elif isinstance(node, ast.Name) and isinstance(node.ctx, ast.Store):
            yield node.id


def drawn_from(tree):
    return [node.module for node in tree.body if isinstance(node, ast.ImportFrom)]


def parents(tree):
    return {child: node for node in ast.walk(tree) for child in ast.iter_child_nodes(node)}


def called(node, names):
    return isinstance(node, ast.Call) and isinstance(node.func, ast.Name) and node.func.id in names


def walker(node):
    """Whether it is a thing that is walked at once (L23)."""
    if called(node, ("zip", "enumerate", "reversed", "range")):
        return True
    own = isinstance(node, ast.Call) and isinstance(node.func, ast.Attribute)
    return own and node.func.attr in ("items", "keys", "values")


def walked_by(node, parent):
    if isinstance(parent, (ast.For, ast.comprehension)):
        return parent.iter is node
    takers = ("list", "tuple", "dict", "sorted", "sum", "any", "all", "enumerate", "zip")
    if called(parent, takers):
        return parent.args[0] is node
    return called(parent, ("min", "max")) and parent.args == [node]


class LanguageTest(unittest.TestCase):
    def test_walked_at_once_L23(self):
        for name, tree in trees():
            above = parents(tree)
            for node in ast.walk(tree):
                if walker(node):
                    self.assertTrue(walked_by(node, above[node]), (name, node.lineno))

    def test_sets_are_not_kept_L24(self):
        for name, tree in trees():
            above = parents(tree)
            for node in ast.walk(tree):
                self.assertNotIsInstance(node, ast.Set, name)
                if called(node, ("set", "frozenset")):
                    parent = above[node]
                    self.assertTrue(isinstance(parent, ast.Compare) or called(parent, ("sorted", "len")), node.lineno)

    def test_powers_and_signs_L27(self):
        for name, node in nodes():
            if isinstance(node, ast.BinOp) and isinstance(node.op, ast.Pow):
                self.assertIsInstance(node.right, ast.Constant, name)
            if isinstance(node, ast.Constant) and isinstance(node.value, str):
                self.assertNotIn("%", node.value, name)

    def test_keywords_L22(self):
        allowed = {"sorted": ("key", "reverse"), "min": ("key", "default"), "max": ("key", "default")}
        for name, node in nodes():
            if isinstance(node, ast.Call) and node.keywords:
                told = allowed.get(node.func.id if isinstance(node.func, ast.Name) else "", ())
                self.assertTrue(all(keyword.arg in told for keyword in node.keywords), (name, node.lineno))

    def test_files_alone_L1_L14(self):
        for path in PACKAGE.iterdir():
            if path.name != "__pycache__":
                self.assertRegex(path.name, r"^[a-z0-9_]+\.py$")
        self.assertTrue((PACKAGE / "__init__.py").exists())

    def test_imports_L2_L16(self):
        for name, node in nodes():
            if isinstance(node, ast.ImportFrom):
                self.assertTrue(node.module.startswith("tienumbers."), name)
                self.assertEqual(node.level, 0, name)
                self.assertTrue(all(part.name != "*" and part.asname is None for part in node.names), name)

    def test_imports_name_the_file_that_defines_L16(self):
        defined = {}
        for name, tree in trees():
            targets = [target for row in tree.body if isinstance(row, ast.Assign) for target in row.targets]
            own = [row.name for row in tree.body if isinstance(row, (ast.FunctionDef, ast.ClassDef))]
            defined["tienumbers." + name[:-3]] = own + [target.id for target in targets]
        for name, node in nodes():
            if isinstance(node, ast.ImportFrom):
                for part in node.names:
                    self.assertIn(part.name, defined[node.module], name)

    def test_no_two_files_draw_from_one_another_L16(self):
        drawn = {"tienumbers." + name[:-3]: drawn_from(tree) for name, tree in trees()}
        done = set()
        while len(done) < len(drawn):
            ready = [name for name in drawn if name not in done and set(drawn[name]) <= done]
            self.assertTrue(ready, "files draw from one another")
            done.update(ready)

    def test_the_top_of_a_module_L3(self):
        for name, tree in trees():
            self.assertIsNotNone(ast.get_docstring(tree), name)
            for row in tree.body[1:]:
                self.assertIsInstance(row, (ast.ImportFrom, ast.FunctionDef, ast.ClassDef, ast.Assign), name)
            made = [row.targets[0].id for row in tree.body if isinstance(row, ast.Assign)]
            self.assertEqual(len(made), len(set(made)), name)

    def test_functions_and_classes_L4_L5(self):
        for name, node in nodes():
            if isinstance(node, (ast.FunctionDef, ast.Lambda)):
                given = node.args
                self.assertFalse(given.vararg or given.kwarg or given.kwonlyargs or given.posonlyargs, name)
            if isinstance(node, (ast.FunctionDef, ast.ClassDef)):
                self.assertEqual(node.decorator_list, [], name)
                self.assertFalse(node.name.startswith("__") and node.name not in ALLOWED_DOUBLE, node.name)
            if isinstance(node, ast.ClassDef):
                self.assertLessEqual(len(node.bases), 1, name)
                self.assertTrue(all(isinstance(row, (ast.FunctionDef, ast.Pass)) for row in node.body), name)

    def test_statements_and_expressions_L6_L7(self):
        for name, node in nodes():
            self.assertNotIsInstance(node, BARRED_NODES, name)
            if isinstance(node, (ast.For, ast.While)):
                self.assertEqual(node.orelse, [], name)
            if isinstance(node, ast.Assign):
                self.assertEqual(len(node.targets), 1, name)
                self.assertNotIsInstance(node.targets[0], (ast.Tuple, ast.List), name)
            if isinstance(node, ast.Try):
                self.assertEqual(node.finalbody, [], name)
            if isinstance(node, ast.ListComp):
                self.assertEqual(len(node.generators), 1, name)
                self.assertLessEqual(len(node.generators[0].ifs), 1, name)
            if isinstance(node, ast.Constant):
                self.assertNotIsInstance(node.value, (float, bytes, complex), name)

    def test_pythons_own_names_L8_L15(self):
        own = set(dir(builtins))
        for name, tree in trees():
            for node in ast.walk(tree):
                if isinstance(node, ast.Name) and node.id in own:
                    self.assertIn(node.id, ALLOWED_NAMES, name)
            for bound in bound_names(tree):
                self.assertNotIn(bound, own, name)

    def test_plain_names_L12(self):
        for name, tree in trees():
            for bound in bound_names(tree):
                self.assertTrue(bound in ALLOWED_DOUBLE or re.fullmatch(r"[A-Za-z][A-Za-z0-9_]*", bound), bound)

    def test_locals_are_not_called_like_imports_or_classes_L15(self):
        for name, tree in trees():
            drawn = {part.name for row in tree.body if isinstance(row, ast.ImportFrom) for part in row.names}
            kept = drawn | {row.name for row in tree.body if isinstance(row, ast.ClassDef)}
            for row in tree.body:
                if isinstance(row, (ast.FunctionDef, ast.ClassDef)):
                    self.assertEqual((set(bound_names(row)) - {row.name}) & kept, set(), name)

    def test_dicts_and_lists_of_the_top_L15(self):
        for name, tree in trees():
            above = parents(tree)
            made = {row.targets[0].id: row.value for row in tree.body if isinstance(row, ast.Assign)}
            kept = [key for key, value in made.items() if isinstance(value, (ast.List, ast.Dict))]
            for key in kept:
                inner = list(ast.walk(made[key]))[1:]
                self.assertFalse([node for node in inner if isinstance(node, (ast.List, ast.Dict))], name)
            for node in ast.walk(tree):
                if isinstance(node, ast.Name) and node.id in kept and isinstance(node.ctx, ast.Load):
                    self.assertIsInstance(above[node], (ast.Subscript, ast.Compare), (name, node.lineno))

    def test_methods_and_values_L18_L26(self):
        methods = {row.name for name, node in nodes() if isinstance(node, ast.ClassDef) for row in node.body
                   if isinstance(row, ast.FunctionDef)}
        values = {node.attr for name, node in nodes() if isinstance(node, ast.Attribute)
                  and isinstance(node.ctx, ast.Store)}
        self.assertEqual(methods & values, set())
        own = {word for one in ("", 0, [], {}, set(), b"", ()) for word in dir(one)}
        self.assertEqual(((methods | values) & own) - ALLOWED_METHODS, set())

    def test_methods_L25(self):
        own = {node.name for name, node in nodes() if isinstance(node, ast.FunctionDef)}
        for name, node in nodes():
            if isinstance(node, ast.Call) and isinstance(node.func, ast.Attribute):
                self.assertIn(node.func.attr, ALLOWED_METHODS | own, name)

    def test_size_L10(self):
        for path in files():
            rows = path.read_text(encoding="utf-8").split("\n")
            self.assertLessEqual(len(rows), 400, path.name)
            self.assertTrue(all(len(row) <= 120 for row in rows), path.name)
        for name, node in nodes():
            if isinstance(node, ast.FunctionDef):
                self.assertLessEqual(node.end_lineno - node.lineno + 1, 40, node.name)

    def test_signs_L14(self):
        for path in files():
            self.assertRegex(path.read_text(encoding="utf-8"), r"\A[ -~\n]*\Z", path.name)

    def test_barred_words_L17(self):
        for path in files():
            self.assertIsNone(BARRED_WORDS.search(path.read_text(encoding="utf-8")), path.name)

    def test_is_stands_beside_none_and_truths_alone_L20(self):
        for name, node in nodes():
            if isinstance(node, ast.Compare) and any(isinstance(op, (ast.Is, ast.IsNot)) for op in node.ops):
                shown = [ast.unparse(side) for side in [node.left] + node.comparators]
                self.assertTrue({"None", "True", "False"} & set(shown), name)


if __name__ == "__main__":
    unittest.main()
