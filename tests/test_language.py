"""Holds the package's files against those rules of its small part of Python that can be read off."""

import ast
import builtins
import pathlib
import re
import unittest

PACKAGE = pathlib.Path(__file__).resolve().parent.parent / "offseat"

STATEMENTS = (
    ast.Assign, ast.AugAssign, ast.If, ast.While, ast.For, ast.Return, ast.Break, ast.Continue,
    ast.Pass, ast.Raise, ast.Try, ast.Expr, ast.FunctionDef, ast.ClassDef, ast.ImportFrom,
)
EXPRESSIONS = (
    ast.Constant, ast.List, ast.Tuple, ast.Dict, ast.Set, ast.BinOp, ast.UnaryOp, ast.Compare,
    ast.BoolOp, ast.IfExp, ast.Call, ast.Attribute, ast.Subscript, ast.Slice, ast.ListComp,
    ast.JoinedStr, ast.FormattedValue, ast.Name, ast.Lambda,
)
BUILTINS = set(
    "len range enumerate zip min max sum abs sorted reversed int str bool list tuple dict set"
    " frozenset isinstance ord repr any all divmod Exception ValueError TypeError KeyError"
    " IndexError LookupError ZeroDivisionError ArithmeticError OverflowError RuntimeError"
    " NotImplementedError AttributeError StopIteration".split()
)
METHODS = set(
    "append clear copy count endswith extend find get index insert isalnum isalpha isdigit"
    " islower isspace isupper items join keys ljust lower lstrip partition pop remove replace"
    " reverse rfind rjust rpartition rsplit rstrip setdefault split splitlines startswith strip"
    " update upper values zfill bit_length".split()
)
DUNDER_METHODS = {"__init__", "__eq__", "__repr__", "__str__", "__len__"}
WORDS = re.compile(
    r"\b(type|typing|typing_extensions|enum|Enum|IntEnum|StrEnum|Flag|IntFlag|Generic|Protocol"
    r"|ABC|ABCMeta|namedtuple|NamedTuple|TypedDict|TYPE_CHECKING|abstractmethod)\b"
    r"|dataclass|overload|contextmanager"
)

NAMES_NOT_USED = set(
    "register mro elements open input version_info with_traceback add_note attrgetter breakpoint"
    " builtins compile copyright credits delattr dir eval exec exit gc getattr globals hasattr help"
    " id importlib license locals methodcaller os quit setattr super type vars sys chr print"
    " format format_map".split()
)
VALUES_LIKE_PYTHONS = set("count index title find get join lower upper split strip copy add".split())
METHODS_LIKE_PYTHONS = METHODS | {"add", "discard"}
WALKED_AT_ONCE = {"zip", "enumerate", "reversed", "range", "items", "keys", "values"}
WALKERS = {"list", "tuple", "dict", "sorted", "sum", "any", "all", "enumerate", "zip", "min", "max", "join"}


def files():
    return sorted(path for path in PACKAGE.rglob("*") if path.is_file() and "__pycache__" not in path.parts)


def trees():
    return [(path, ast.parse(path.read_text("utf-8"))) for path in files()]


def nodes(kind):
    return [(path, node) for path, tree in trees() for node in ast.walk(tree) if isinstance(node, kind)]


def where(path, node):
    return f"{path.name}:{node.lineno}"


def docstrings(tree):
    return [tree.body[0]] if ast.get_docstring(tree) is not None else []


def own_methods():
    return {
        part.name for path, node in nodes(ast.ClassDef) for part in node.body if isinstance(part, ast.FunctionDef)
    }


def own_values():
    return {node.attr for path, node in nodes(ast.Attribute) if isinstance(node.ctx, ast.Store)}


def names_of_pythons_values():
    return {name for kind in (str, int, list, dict, set, bytes, tuple) for name in dir(kind)}


def called_name(call):
    return call.func.attr if isinstance(call.func, ast.Attribute) else getattr(call.func, "id", None)


def is_walked(tree, call):
    for node in ast.walk(tree):
        if isinstance(node, (ast.For, ast.comprehension)) and node.iter is call:
            return True
        if isinstance(node, ast.Call) and called_name(node) in WALKERS and call in node.args:
            return True
    return False


def imported(tree):
    return {name.name for node in tree.body if isinstance(node, ast.ImportFrom) for name in node.names}


def drawn_from(stem):
    tree = ast.parse((PACKAGE / (stem + ".py")).read_text("utf-8"))
    return [node.module[8:] for node in tree.body if isinstance(node, ast.ImportFrom)]


class Language(unittest.TestCase):
    def test_files_are_plain(self):
        self.assertIn(PACKAGE / "__init__.py", files())
        for path in files():
            self.assertRegex(path.name, r"^([a-z][a-z0-9_]*|__init__|__main__)\.py$")
            self.assertNotIn(path.stem, dir(builtins))
            self.assertRegex(path.read_bytes().decode("ascii"), r"\A[ -~\n]*\Z", path.name)

    def test_size(self):
        for path in files():
            rows = path.read_text("utf-8").split("\n")
            self.assertLessEqual(len(rows), 400, path.name)
            self.assertLessEqual(max(len(row) for row in rows), 120, path.name)
        for path, node in nodes(ast.FunctionDef):
            self.assertLessEqual(node.end_lineno - node.lineno + 1, 40, where(path, node))

    def test_words_that_stand_nowhere(self):
        for path in files():
            self.assertIsNone(WORDS.search(path.read_text("utf-8")), path.name)

    def test_imports_are_the_packages_own(self):
        for path, node in nodes((ast.Import, ast.ImportFrom)):
            self.assertIsInstance(node, ast.ImportFrom, where(path, node))
            self.assertEqual(node.level, 0, where(path, node))
            self.assertRegex(node.module, r"^offseat\.[a-z_]+$", where(path, node))
            defined = [part.name for part in ast.parse((PACKAGE / (node.module[8:] + ".py")).read_text()).body
                       if isinstance(part, (ast.FunctionDef, ast.ClassDef))]
            for name in node.names:
                self.assertIn(name.name, defined, where(path, node))

    def test_the_top_of_a_module(self):
        for path, tree in trees():
            for part in tree.body:
                if part not in docstrings(tree):
                    self.assertIsInstance(part, (ast.ImportFrom, ast.FunctionDef, ast.ClassDef, ast.Assign),
                                          where(path, part))

    def test_statements(self):
        for path, tree in trees():
            for node in ast.walk(tree):
                if isinstance(node, ast.stmt):
                    self.assertIsInstance(node, STATEMENTS, where(path, node))
                if isinstance(node, ast.Expr) and node not in docstrings(tree):
                    self.assertIsInstance(node.value, ast.Call, where(path, node))
                if isinstance(node, (ast.For, ast.While)):
                    self.assertEqual(node.orelse, [], where(path, node))
                if isinstance(node, ast.Assign):
                    self.assertEqual(len(node.targets), 1, where(path, node))

    def test_expressions(self):
        for path, node in nodes(ast.expr):
            self.assertIsInstance(node, EXPRESSIONS, where(path, node))
            if isinstance(node, ast.Constant):
                self.assertIn(type(node.value), (int, str, bool, type(None)), where(path, node))
            if isinstance(node, ast.BinOp):
                self.assertNotIsInstance(node.op, (ast.Div, ast.MatMult), where(path, node))
            if isinstance(node, ast.ListComp):
                self.assertEqual(len(node.generators), 1, where(path, node))
                self.assertLessEqual(len(node.generators[0].ifs), 1, where(path, node))

    def test_functions_and_classes(self):
        for path, node in nodes(ast.FunctionDef):
            self.assertEqual(node.decorator_list, [], where(path, node))
            self.assertIsNone(node.args.vararg or node.args.kwarg, where(path, node))
            self.assertEqual(node.args.kwonlyargs + node.args.posonlyargs, [], where(path, node))
            if node.name.startswith("_"):
                self.assertIn(node.name, DUNDER_METHODS, where(path, node))
        for path, node in nodes(ast.ClassDef):
            self.assertEqual(node.decorator_list + node.keywords, [], where(path, node))
            self.assertLessEqual(len(node.bases), 1, where(path, node))
            for part in node.body:
                self.assertIsInstance(part, (ast.FunctionDef, ast.Pass), where(path, part))

    def test_names(self):
        known = set(dir(builtins))
        for path, node in nodes(ast.Name):
            if isinstance(node.ctx, ast.Load):
                self.assertTrue(node.id not in known or node.id in BUILTINS, where(path, node))
            else:
                self.assertNotIn(node.id, known, where(path, node))
            self.assertRegex(node.id, r"^[A-Za-z]", where(path, node))
        for path, node in nodes(ast.arg):
            self.assertNotIn(node.arg, known, where(path, node))
            self.assertRegex(node.arg, r"^[A-Za-z]", where(path, node))

    def test_called_methods(self):
        allowed = METHODS | own_methods()
        for path, node in nodes(ast.Call):
            if isinstance(node.func, ast.Attribute):
                self.assertIn(node.func.attr, allowed, where(path, node))

    def test_is_stands_beside_none_true_and_false_alone(self):
        for path, node in nodes(ast.Compare):
            for op, right in zip(node.ops, node.comparators):
                if isinstance(op, (ast.Is, ast.IsNot)):
                    self.assertIsInstance(right, ast.Constant, where(path, node))
                    self.assertIn(right.value, (None, True, False), where(path, node))

    def test_no_two_files_draw_from_one_another(self):
        for path in files():
            reached = drawn_from(path.stem)
            for stem in reached:
                reached.extend(other for other in drawn_from(stem) if other not in reached)
            self.assertNotIn(path.stem, reached)

    def test_names_that_are_not_used(self):
        for path, node in nodes((ast.Name, ast.Attribute)):
            self.assertNotIn(node.id if isinstance(node, ast.Name) else node.attr, NAMES_NOT_USED, where(path, node))

    def test_each_name_once(self):
        for path, tree in trees():
            tops = [part.name for part in tree.body if isinstance(part, (ast.FunctionDef, ast.ClassDef))]
            bound = tops + sorted(imported(tree))
            self.assertEqual(len(bound), len(set(bound)), path.name)
            for node in ast.walk(tree):
                if isinstance(node, ast.Name) and isinstance(node.ctx, ast.Store):
                    self.assertNotIn(node.id, bound, where(path, node))
                if isinstance(node, ast.arg):
                    self.assertNotIn(node.arg, bound, where(path, node))

    def test_own_methods_and_values(self):
        methods = own_methods() - DUNDER_METHODS
        self.assertEqual(methods & own_values(), set())
        self.assertEqual((methods & names_of_pythons_values()) - METHODS_LIKE_PYTHONS, set())
        self.assertEqual((own_values() & names_of_pythons_values()) - VALUES_LIKE_PYTHONS, set())

    def test_no_annotations_keywords_or_taken_errors(self):
        for path, node in nodes((ast.FunctionDef, ast.arg)):
            self.assertIsNone(getattr(node, "returns", None) or getattr(node, "annotation", None), where(path, node))
        for path, node in nodes(ast.Call):
            self.assertEqual(node.keywords, [], where(path, node))
        self.assertEqual(nodes(ast.Try), [])

    def test_walked_at_once(self):
        for path, tree in trees():
            for node in ast.walk(tree):
                if isinstance(node, ast.Call) and called_name(node) in WALKED_AT_ONCE:
                    self.assertTrue(is_walked(tree, node), where(path, node))

    def test_no_sets_and_no_powers(self):
        self.assertEqual(nodes((ast.Set, ast.Pow)), [])
        for path, node in nodes(ast.Name):
            self.assertNotIn(node.id, ("set", "frozenset"), where(path, node))


if __name__ == "__main__":
    unittest.main()
