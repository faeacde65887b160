"""The rules on the form of the package's code, as far as a small check can see them."""

import ast
import builtins
import pathlib
import re
import unittest

PACKAGE = pathlib.Path(__file__).resolve().parent.parent / "gapscribe"

STATEMENTS = (
    ast.Module, ast.FunctionDef, ast.ClassDef, ast.ImportFrom, ast.Assign, ast.AugAssign, ast.If, ast.While, ast.For,
    ast.Return, ast.Break, ast.Continue, ast.Pass, ast.Raise, ast.Try, ast.ExceptHandler, ast.Expr,
)
EXPRESSIONS = (
    ast.Constant, ast.List, ast.Tuple, ast.Dict, ast.BinOp, ast.UnaryOp, ast.Compare, ast.BoolOp, ast.IfExp, ast.Call,
    ast.Attribute, ast.Subscript, ast.Slice, ast.ListComp, ast.comprehension, ast.JoinedStr, ast.FormattedValue,
    ast.Lambda, ast.Name, ast.arguments, ast.arg, ast.keyword, ast.alias,
)
SIGNS = (ast.operator, ast.unaryop, ast.cmpop, ast.boolop, ast.expr_context)
OWN_NAMES = set(
    "len range enumerate zip min max sum abs sorted reversed int str bool list tuple dict set frozenset isinstance ord"
    " repr any all divmod Exception ValueError TypeError KeyError IndexError LookupError ZeroDivisionError"
    " ArithmeticError OverflowError RuntimeError NotImplementedError AttributeError StopIteration".split()
)
NO_WORDS = (
    r"\b(type|typing|typing_extensions|enum|Enum|IntEnum|StrEnum|Flag|IntFlag|Generic|Protocol|ABC|ABCMeta|namedtuple"
    r"|NamedTuple|TypedDict|TYPE_CHECKING|abstractmethod)\b|dataclass|overload|contextmanager"
)
NOWHERE = ("register", "mro", "elements", "open", "input", "version_info", "with_traceback", "add_note")
METHODS = ("__init__", "__eq__", "__repr__", "__str__", "__len__")
METHODS_OF_VALUES = set(
    "append clear copy count endswith extend find get index insert isalnum isalpha isdigit islower isspace isupper"
    " items join keys ljust lower lstrip partition pop remove replace reverse rfind rjust rpartition rsplit rstrip"
    " setdefault split splitlines startswith strip update upper values zfill bit_length".split()
)
TAKEN = {name for kind in (str, int, list, dict, set, bytes) for name in dir(kind)}
METHODS_FREE = METHODS_OF_VALUES | {"add", "discard"}
VALUES_FREE = set("count index title find get join lower upper split strip copy add".split())
WALKED = ("zip", "enumerate", "reversed", "range", "items", "keys", "values")
WALKERS = ("list", "tuple", "dict", "sorted", "sum", "any", "all", "enumerate", "zip", "min", "max", "join")


def bound_names(tree):
    """Every name that the file itself binds, wherever."""
    names = set()
    for node in ast.walk(tree):
        if isinstance(node, (ast.FunctionDef, ast.ClassDef)):
            names.add(node.name)
        elif isinstance(node, ast.arg):
            names.add(node.arg)
        elif isinstance(node, ast.alias):
            names.add(node.name)
        elif isinstance(node, ast.ExceptHandler) and node.name:
            names.add(node.name)
        elif isinstance(node, ast.Name) and isinstance(node.ctx, ast.Store):
            names.add(node.id)
    return names


def called(node):
    """The name of the function or method that a call calls."""
    return getattr(node.func, "id", getattr(node.func, "attr", None))


def walked_at_once(tree):
    """All that stands behind the `in` of a loop, or as the first thing in what walks it."""
    for node in ast.walk(tree):
        if isinstance(node, (ast.For, ast.comprehension)):
            yield node.iter
        elif isinstance(node, ast.Call) and called(node) == "zip":
            yield from node.args
        elif isinstance(node, ast.Call) and called(node) in WALKERS:
            yield from node.args[:1]


def methods_of(tree):
    classes = [node for node in tree.body if isinstance(node, ast.ClassDef)]
    return {part.name for node in classes for part in node.body if isinstance(part, ast.FunctionDef)} - set(METHODS)


class LanguageTest(unittest.TestCase):
    def setUp(self):
        self.files = sorted(path for path in PACKAGE.rglob("*") if "__pycache__" not in path.parts)
        self.trees = {path: ast.parse(path.read_text("utf-8")) for path in self.files}

    def nodes(self):
        for path, tree in self.trees.items():
            for node in ast.walk(tree):
                yield f"{path.name}:{getattr(node, 'lineno', 0)}", node

    def test_files(self):
        for path in self.files:
            self.assertRegex(path.name, r"\A[a-z_][a-z0-9_]*\.py\Z")
        self.assertIn(PACKAGE / "__init__.py", self.files)

    def test_signs_and_sizes(self):
        for path in self.files:
            text = path.read_bytes().decode("ascii")
            self.assertRegex(text, r"\A[ -~\n]*\Z", path.name)
            self.assertIsNone(re.search(NO_WORDS, text), path.name)
            rows = text.split("\n")
            self.assertLessEqual(len(rows), 401, path.name)
            self.assertLessEqual(max(map(len, rows)), 120, path.name)

    def test_nodes(self):
        for where, node in self.nodes():
            self.assertIsInstance(node, STATEMENTS + EXPRESSIONS + SIGNS, where)
            self.assertNotIsInstance(node, (ast.Div, ast.MatMult), where)
            if isinstance(node, ast.Constant):
                self.assertIn(type(node.value), (int, str, bool, type(None)), where)
                self.assertNotIn("%", str(node.value), where)
            if isinstance(node, ast.comprehension):
                self.assertLessEqual(len(node.ifs), 1, where)
            if isinstance(node, ast.ListComp):
                self.assertEqual(len(node.generators), 1, where)
            if isinstance(node, ast.Assign):
                self.assertEqual(len(node.targets), 1, where)

    def test_is_stands_beside_none_and_truths(self):
        for where, node in self.nodes():
            if isinstance(node, ast.Compare) and any(isinstance(sign, (ast.Is, ast.IsNot)) for sign in node.ops):
                beside = node.comparators[-1]
                self.assertTrue(isinstance(beside, ast.Constant) and beside.value in (None, True, False), where)

    def test_statements_by_themselves(self):
        for path, tree in self.trees.items():
            for node in ast.walk(tree):
                if isinstance(node, ast.Expr) and node not in tree.body[:1]:
                    self.assertIsInstance(node.value, ast.Call, f"{path.name}:{node.lineno}")

    def test_defs(self):
        for where, node in self.nodes():
            if isinstance(node, ast.FunctionDef):
                self.assertLessEqual(node.end_lineno - node.lineno + 1, 40, where)
                self.assertEqual(node.decorator_list, [], where)
                given = node.args
                self.assertEqual((given.vararg, given.kwarg, given.kwonlyargs, given.posonlyargs), (None, None, [], []))
            if isinstance(node, ast.ClassDef):
                self.assertLessEqual(len(node.bases), 1, where)
                for part in node.body:
                    self.assertIsInstance(part, (ast.FunctionDef, ast.Pass), where)

    def test_imports(self):
        for path, tree in self.trees.items():
            for node in ast.walk(tree):
                if isinstance(node, ast.ImportFrom):
                    where = f"{path.name}:{node.lineno}"
                    self.assertIn(node, tree.body, where)
                    self.assertEqual(node.level, 0, where)
                    self.assertRegex(node.module, r"\Agapscribe\.[a-z_]+\Z", where)
                    self.assertIn(PACKAGE / (node.module.split(".")[1] + ".py"), self.files, where)
                    self.assertEqual([alias.name for alias in node.names if alias.name == "*" or alias.asname], [])

    def test_names(self):
        for path, tree in self.trees.items():
            bound = bound_names(tree)
            self.assertEqual([name for name in bound if name in OWN_NAMES], [], path.name)
            self.assertEqual([name for name in bound if name.startswith("_") and name not in METHODS], [], path.name)
            for node in ast.walk(tree):
                if isinstance(node, ast.Name):
                    self.assertIn(node.id, bound | OWN_NAMES, f"{path.name}:{node.lineno}")
                    self.assertNotIn(node.id, NOWHERE, f"{path.name}:{node.lineno}")
                if isinstance(node, ast.Attribute):
                    self.assertNotIn(node.attr, NOWHERE + ("format", "format_map"), f"{path.name}:{node.lineno}")

    def test_names_at_the_top_are_bound_once(self):
        for path, tree in self.trees.items():
            names = []
            for node in tree.body:
                if isinstance(node, (ast.FunctionDef, ast.ClassDef)):
                    names.append(node.name)
                elif isinstance(node, ast.ImportFrom):
                    names += [alias.name for alias in node.names]
                elif isinstance(node, ast.Assign):
                    names += [target.id for target in node.targets]
            self.assertEqual(sorted(names), sorted(set(names)), path.name)

    def test_methods_and_values(self):
        own = {name for tree in self.trees.values() for name in methods_of(tree)}
        values = set()
        for where, node in self.nodes():
            if isinstance(node, ast.Attribute) and not isinstance(node.ctx, ast.Load):
                self.assertIsInstance(node.value, ast.Name, where)
                values.add(node.attr)
            if isinstance(node, ast.Call) and isinstance(node.func, ast.Attribute):
                self.assertIn(node.func.attr, METHODS_OF_VALUES | own | {"__init__"}, where)
        self.assertEqual(own & values, set())
        self.assertEqual((own & TAKEN) - METHODS_FREE, set())
        self.assertEqual((values & TAKEN) - VALUES_FREE, set())

    def test_no_method_stands_twice(self):
        for where, node in self.nodes():
            if isinstance(node, ast.ClassDef):
                names = [part.name for part in node.body if isinstance(part, ast.FunctionDef)]
                self.assertEqual(sorted(names), sorted(set(names)), where)

    def test_walked_at_once(self):
        for path, tree in self.trees.items():
            walked = list(walked_at_once(tree))
            for node in ast.walk(tree):
                if isinstance(node, ast.Call) and called(node) in WALKED:
                    self.assertIn(node, walked, f"{path.name}:{node.lineno}")

    def test_parameters_and_locals(self):
        for path, tree in self.trees.items():
            no_locals = set(dir(builtins)) | {node.name for node in tree.body if isinstance(node, ast.ClassDef)}
            for node in tree.body:
                if isinstance(node, ast.ImportFrom):
                    no_locals |= {alias.name for alias in node.names}
            for node in ast.walk(tree):
                if isinstance(node, ast.arg):
                    self.assertNotIn(node.arg, no_locals, f"{path.name}:{node.lineno}")
                if isinstance(node, ast.Name) and isinstance(node.ctx, ast.Store):
                    self.assertNotIn(node.id, no_locals, f"{path.name}:{node.lineno}")

    def test_no_two_files_draw_from_one_another(self):
        drawn = {}
        for path, tree in self.trees.items():
            rows = [node for node in tree.body if isinstance(node, ast.ImportFrom)]
            drawn[path.stem] = {row.module.split(".")[1] for row in rows}
        while drawn:
            ready = [name for name in drawn if not drawn[name] & set(drawn)]
            self.assertTrue(ready, sorted(drawn))
            for name in ready:
                drawn.pop(name)


if __name__ == "__main__":
    unittest.main()
