"""The package keeps to the part of Python that LANGUAGE.md tells, as far as a test can see it."""

import ast
import builtins
import pathlib
import re
import unittest

PACKAGE = pathlib.Path(__file__).resolve().parent.parent / "bentwires"

BUILTINS = set("""len range enumerate zip min max sum abs sorted reversed int str bool list tuple dict set frozenset
isinstance ord repr any all divmod Exception ValueError TypeError KeyError IndexError LookupError ZeroDivisionError
ArithmeticError OverflowError RuntimeError NotImplementedError AttributeError StopIteration""".split())

METHODS = set("""append clear copy count endswith extend find get index insert isalnum isalpha isdigit islower isspace
isupper items join keys ljust lower lstrip partition pop remove replace reverse rfind rjust rpartition rsplit rstrip
setdefault split splitlines startswith strip update upper values zfill bit_length""".split())

DUNDERS = {"__init__", "__eq__", "__repr__", "__str__", "__len__"}

FORBIDDEN_WORDS = re.compile(
    r"\b(type|typing|typing_extensions|enum|Enum|IntEnum|StrEnum|Flag|IntFlag|Generic|Protocol|ABC|ABCMeta|namedtuple"
    r"|NamedTuple|TypedDict|TYPE_CHECKING|abstractmethod)\b|dataclass|overload|contextmanager")

NODES = (
    ast.Module, ast.FunctionDef, ast.ClassDef, ast.Lambda, ast.arguments, ast.arg, ast.ImportFrom, ast.alias,
    ast.Assign, ast.AugAssign, ast.If, ast.While, ast.For, ast.Return, ast.Break, ast.Continue, ast.Pass, ast.Raise,
    ast.Try, ast.ExceptHandler, ast.Expr, ast.Constant, ast.Name, ast.List, ast.Tuple, ast.Dict, ast.Set, ast.BinOp,
    ast.UnaryOp, ast.BoolOp, ast.Compare, ast.IfExp, ast.Call, ast.keyword, ast.Attribute, ast.Subscript, ast.Slice,
    ast.ListComp, ast.comprehension, ast.JoinedStr, ast.FormattedValue, ast.expr_context, ast.operator, ast.unaryop,
    ast.boolop, ast.cmpop,
)

# What L23 lets stand round a walk, beside a `for` and a comprehension.
WALKERS = {"list", "tuple", "dict", "sorted", "sum", "any", "all", "enumerate", "zip", "min", "max"}
WALKED = {"zip", "enumerate", "reversed", "range"}


def files():
    return sorted(PACKAGE.glob("*.py"))


def tree_of(path):
    return ast.parse(path.read_text(encoding="utf-8"))


def own_names(tree):
    """The names bound at a file's top, imports among them."""
    names = []
    for node in tree.body:
        if isinstance(node, (ast.FunctionDef, ast.ClassDef)):
            names.append(node.name)
        elif isinstance(node, ast.Assign):
            names.append(node.targets[0].id)
        elif isinstance(node, ast.ImportFrom):
            names += [alias.asname or alias.name for alias in node.names]
    return names


def locals_of(tree):
    """Every name that is a parameter, or is given a value within a def."""
    names = [node.arg for node in ast.walk(tree) if isinstance(node, ast.arg)]
    for function in ast.walk(tree):
        if isinstance(function, (ast.FunctionDef, ast.Lambda, ast.ListComp)):
            names += [n.id for n in ast.walk(function) if isinstance(n, ast.Name) and isinstance(n.ctx, ast.Store)]
    return names


class FilesTest(unittest.TestCase):
    def test_nothing_but_plain_files(self):
        there = [path.name for path in PACKAGE.iterdir() if path.name != "__pycache__"]
        self.assertIn("__init__.py", there)
        for name in there:
            self.assertRegex(name, r"^[a-z0-9_]+\.py$")
            stem = name[:-3]
            self.assertFalse(stem in dir(builtins) or stem.startswith("test") or FORBIDDEN_WORDS.search(stem), name)

    def test_signs_words_and_sizes(self):
        for path in files():
            text = path.read_text(encoding="utf-8")
            self.assertEqual({sign for sign in text if sign != "\n" and not " " <= sign <= "~"}, set(), path)
            self.assertIsNone(FORBIDDEN_WORDS.search(text), path)
            lines = text.split("\n")
            self.assertLessEqual(len(lines), 400, path)
            self.assertLessEqual(max(len(line) for line in lines), 120, path)
            for node in ast.walk(tree_of(path)):
                if isinstance(node, ast.FunctionDef):
                    self.assertLessEqual(node.end_lineno - node.lineno + 1, 40, (path, node.name))

    def test_imports_are_the_packages_own_and_go_round_no_circle(self):
        drawn = {}
        for path in files():
            rows = [node for node in ast.walk(tree_of(path)) if isinstance(node, (ast.ImportFrom, ast.Import))]
            for row in rows:
                self.assertIsInstance(row, ast.ImportFrom, path)
                self.assertTrue(row.module.startswith("bentwires.") and row.level == 0, path)
                source = PACKAGE / (row.module.split(".")[1] + ".py")
                defined = [n for n in own_names(ast.Module(
                    [d for d in tree_of(source).body if not isinstance(d, ast.ImportFrom)], []))]
                self.assertEqual([alias.name for alias in row.names if alias.name not in defined], [], path)
            drawn[path.stem] = {row.module.split(".")[1] for row in rows}
        while drawn:
            free = [name for name, others in drawn.items() if not others & set(drawn)]
            self.assertTrue(free, f"these draw from one another: {sorted(drawn)}")
            for name in free:
                del drawn[name]


class CodeTest(unittest.TestCase):
    def each_node(self):
        for path in files():
            for node in ast.walk(tree_of(path)):
                yield f"{path.name}:{getattr(node, 'lineno', 0)}", node

    def test_only_the_nodes_of_the_language(self):
        for where, node in self.each_node():
            self.assertIsInstance(node, NODES, where)
            if isinstance(node, ast.Assign):
                self.assertEqual(len(node.targets), 1, where)
            if isinstance(node, (ast.For, ast.While)):
                self.assertEqual(node.orelse, [], where)
            if isinstance(node, ast.Try):
                self.assertEqual(node.finalbody, [], where)
            if isinstance(node, ast.ListComp):
                self.assertEqual(len(node.generators), 1, where)
                self.assertLessEqual(len(node.generators[0].ifs), 1, where)
            if isinstance(node, ast.FormattedValue):
                self.assertIsInstance(node.value, ast.Name, where)
                self.assertIsNone(node.format_spec, where)

    def test_functions_and_classes_are_plain(self):
        for where, node in self.each_node():
            if isinstance(node, ast.arguments):
                self.assertFalse(node.vararg or node.kwarg or node.kwonlyargs or node.posonlyargs, where)
            if isinstance(node, ast.arg):
                self.assertIsNone(node.annotation, where)
            if isinstance(node, ast.FunctionDef):
                self.assertIsNone(node.returns, where)
            if isinstance(node, (ast.FunctionDef, ast.ClassDef)):
                self.assertEqual(node.decorator_list, [], where)
            if isinstance(node, ast.ClassDef):
                self.assertTrue(len(node.bases) <= 1 and not node.keywords, where)
                for part in node.body:
                    self.assertIsInstance(part, (ast.FunctionDef, ast.Pass, ast.Expr), where)

    def test_values_are_whole_numbers_and_texts(self):
        for where, node in self.each_node():
            if isinstance(node, ast.Constant):
                self.assertIn(type(node.value), (int, str, bool, type(None)), where)
                if isinstance(node.value, str):
                    self.assertNotIn(chr(37), node.value, where)
            self.assertNotIsInstance(node, (ast.Div, ast.MatMult), where)
            if isinstance(node, ast.BinOp) and isinstance(node.op, ast.Pow):
                self.assertTrue(isinstance(node.right, ast.Constant) and 0 <= node.right.value <= 64, where)
            if isinstance(node, ast.Compare) and any(isinstance(op, (ast.Is, ast.IsNot)) for op in node.ops):
                self.assertTrue(all(isinstance(c, ast.Constant) for c in node.comparators), where)

    def test_names(self):
        for path in files():
            tree = tree_of(path)
            top = own_names(tree)
            self.assertEqual(len(top), len(set(top)), path)
            used = {node.id for node in ast.walk(tree) if isinstance(node, ast.Name)}
            mine = set(top) | set(locals_of(tree))
            self.assertEqual(used - mine - BUILTINS, set(), path)
            self.assertEqual(mine & set(dir(builtins)), set(), path)
            classes = {node.name for node in tree.body if isinstance(node, ast.ClassDef)}
            rows = [node for node in tree.body if isinstance(node, ast.ImportFrom)]
            imported = {alias.name for row in rows for alias in row.names}
            self.assertEqual(set(locals_of(tree)) & (classes | imported), set(), path)
            for name in mine:
                self.assertRegex(name, r"^[A-Za-z][A-Za-z0-9_]*$", path)

    def test_methods(self):
        own = {node.name for where, node in self.each_node() if isinstance(node, ast.FunctionDef)}
        for where, node in self.each_node():
            if isinstance(node, ast.Call) and isinstance(node.func, ast.Attribute):
                self.assertIn(node.func.attr, METHODS | own | DUNDERS, where)
        for where, node in self.each_node():
            if isinstance(node, ast.FunctionDef) and node.name.startswith("_"):
                self.assertIn(node.name, DUNDERS, where)

    def test_walks_are_walked_on_the_spot(self):
        for path in files():
            tree = tree_of(path)
            on_the_spot = []
            for node in ast.walk(tree):
                if isinstance(node, (ast.For, ast.comprehension)):
                    on_the_spot.append(node.iter)
                if isinstance(node, ast.Call) and isinstance(node.func, ast.Name) and node.func.id in WALKERS:
                    on_the_spot += node.args[:1]
            for node in ast.walk(tree):
                if isinstance(node, ast.Call) and isinstance(node.func, ast.Name) and node.func.id in WALKED:
                    self.assertIn(node, on_the_spot, f"{path.name}:{node.lineno}")

    def test_the_top_of_a_file(self):
        for path in files():
            tree = tree_of(path)
            self.assertIsNotNone(ast.get_docstring(tree), path)
            for node in tree.body[1:]:
                self.assertIsInstance(node, (ast.ImportFrom, ast.FunctionDef, ast.ClassDef, ast.Assign), path)
                if isinstance(node, ast.Assign) and isinstance(node.value, (ast.List, ast.Dict)):
                    inner = [part for part in ast.walk(node.value) if part is not node.value]
                    self.assertFalse(any(isinstance(part, (ast.List, ast.Dict, ast.Call)) for part in inner), path)


if __name__ == "__main__":
    unittest.main()
