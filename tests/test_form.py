"""Holds the package to the rules of LANGUAGE.md that can be read off its text; each check names its rule."""

import ast
import builtins
import re
import unittest
from pathlib import Path

PACKAGE = Path(__file__).resolve().parent.parent / "blockkeep"

BUILT_IN = set(
    "len range enumerate zip min max sum abs sorted reversed int str bool list tuple dict set frozenset isinstance ord"
    " repr any all divmod Exception ValueError TypeError KeyError IndexError LookupError ZeroDivisionError"
    " ArithmeticError OverflowError RuntimeError NotImplementedError AttributeError StopIteration".split()
)
TWO_UNDERSCORES = {"__init__", "__eq__", "__repr__", "__str__", "__len__"}
WORDS_NOWHERE = (
    "type typing typing_extensions enum Enum IntEnum StrEnum Flag IntFlag Generic Protocol ABC ABCMeta namedtuple"
    " NamedTuple TypedDict TYPE_CHECKING abstractmethod".split()
)
NAMES_NOWHERE = {"register", "mro", "elements", "open", "input", "version_info", "with_traceback", "add_note",
                 "format", "format_map"}
NODES_OUT = (
    ast.With, ast.Match, ast.Delete, ast.Global, ast.Nonlocal, ast.Assert, ast.Yield, ast.YieldFrom, ast.Await,
    ast.AsyncFunctionDef, ast.AsyncFor, ast.AsyncWith, ast.NamedExpr, ast.Starred, ast.SetComp, ast.DictComp,
    ast.GeneratorExp, ast.Div, ast.MatMult, ast.AnnAssign, ast.Import, ast.TryStar,
)
METHODS = set(
    "append clear copy count endswith extend find get index insert isalnum isalpha isdigit islower isspace isupper"
    " items join keys ljust lower lstrip partition pop remove replace reverse rfind rjust rpartition rsplit rstrip"
    " setdefault split splitlines startswith strip update upper values zfill bit_length".split()
)


def package_files():
    return sorted(path for path in PACKAGE.rglob("*") if path.is_file() and "__pycache__" not in path.parts)


def trees():
    return [(path.name, ast.parse(path.read_text())) for path in package_files()]


def nodes_of(kinds):
    return [(name, node) for name, tree in trees() for node in ast.walk(tree) if isinstance(node, kinds)]


def bound_names(node):
    if isinstance(node, (ast.FunctionDef, ast.ClassDef, ast.alias)):
        return [node.name]
    if isinstance(node, ast.arg):
        return [node.arg]
    if isinstance(node, ast.Attribute):
        return [node.attr]
    if isinstance(node, ast.Name):
        return [node.id]
    return []


def methods_of(tree):
    classes = [node for node in tree.body if isinstance(node, ast.ClassDef)]
    return [part.name for one in classes for part in one.body if isinstance(part, ast.FunctionDef)]


class FileFormTest(unittest.TestCase):
    def test_plain_files_alone(self):
        names = [path.name for path in package_files()]
        self.assertIn("__init__.py", names)
        for name in names:
            self.assertRegex(name, r"^(__init__|__main__|[a-z][a-z0-9_]*)\.py$", "L1, L14")

    def test_signs_and_sizes(self):
        for path in package_files():
            text = path.read_bytes().decode("utf-8")
            rows = text.split("\n")
            with self.subTest(file=path.name):
                self.assertIsNone(re.search(r"[^ -~\n]", text), "L14")
                self.assertLessEqual(len(rows) - 1, 400, "L10")
                self.assertLessEqual(max(len(row) for row in rows), 120, "L10")

    def test_words_that_stand_nowhere(self):
        pattern = r"\b(" + "|".join(WORDS_NOWHERE) + r")\b|dataclass|overload|contextmanager"
        for path in package_files():
            with self.subTest(file=path.name):
                self.assertIsNone(re.search(pattern, path.read_text()), "L17")


class TreeFormTest(unittest.TestCase):
    def test_nodes_that_are_out(self):
        found = [(name, node.lineno) for name, node in nodes_of(NODES_OUT) if hasattr(node, "lineno")]
        self.assertEqual(found, [], "L2, L6, L7, L16, L21")
        self.assertEqual([name for name, node in nodes_of((ast.Div, ast.MatMult))], [], "L7")

    def test_imports(self):
        for name, node in nodes_of(ast.ImportFrom):
            with self.subTest(file=name, line=node.lineno):
                self.assertEqual(node.level, 0, "L2")
                self.assertRegex(node.module, r"^(blockkeep\.[a-z_]+|__future__)$", "L2")
                self.assertNotIn("*", [alias.name for alias in node.names], "L2")

    def test_functions(self):
        for name, node in nodes_of(ast.FunctionDef):
            given = node.args
            with self.subTest(file=name, line=node.lineno):
                self.assertLessEqual(node.end_lineno - node.lineno + 1, 40, "L10")
                self.assertEqual(node.decorator_list, [], "L4")
                self.assertEqual([given.vararg, given.kwarg], [None, None], "L4")
                self.assertEqual(given.kwonlyargs + given.posonlyargs, [], "L4")

    def test_classes(self):
        for name, node in nodes_of(ast.ClassDef):
            with self.subTest(file=name, line=node.lineno):
                self.assertLessEqual(len(node.bases), 1, "L5")
                self.assertEqual(node.decorator_list + node.keywords, [], "L5")
                self.assertTrue(all(isinstance(part, (ast.FunctionDef, ast.Pass)) for part in node.body), "L5")

    def test_a_text_by_itself_stands_at_the_top_alone(self):
        for name, tree in trees():
            tops = [node for node in tree.body[:1] if isinstance(node, ast.Expr)]
            alone = [node for node in ast.walk(tree) if isinstance(node, ast.Expr)]
            bare = [node for node in alone if not isinstance(node.value, ast.Call)]
            with self.subTest(file=name):
                self.assertEqual([node.lineno for node in bare if node not in tops], [], "L3, L6")

    def test_loops_and_assignments(self):
        for name, node in nodes_of((ast.For, ast.While)):
            self.assertEqual(node.orelse, [], f"L6 {name} {node.lineno}")
        for name, node in nodes_of(ast.Try):
            self.assertEqual(node.finalbody, [], f"L6 {name} {node.lineno}")
        for name, node in nodes_of(ast.Assign):
            self.assertEqual(len(node.targets), 1, f"L6 {name} {node.lineno}")

    def test_plain_values(self):
        for name, node in nodes_of(ast.Constant):
            plain = node.value is None or isinstance(node.value, (bool, int, str))
            self.assertTrue(plain, f"L7 {name} {node.lineno}")

    def test_names(self):
        for name, node in nodes_of((ast.FunctionDef, ast.ClassDef, ast.alias, ast.arg, ast.Attribute, ast.Name)):
            for word in bound_names(node):
                with self.subTest(file=name, line=node.lineno, word=word):
                    self.assertNotIn(word, NAMES_NOWHERE, "L8, L17")
                    self.assertTrue(not word.startswith("_") or word in TWO_UNDERSCORES, "L12")

    def test_pythons_own_names(self):
        for name, node in nodes_of(ast.Name):
            if name != "__main__.py" and hasattr(builtins, node.id):
                with self.subTest(file=name, line=node.lineno, word=node.id):
                    self.assertIn(node.id, BUILT_IN, "L8")
                    self.assertIsInstance(node.ctx, ast.Load, "L8, L15")
        for name, node in nodes_of(ast.arg):
            self.assertFalse(hasattr(builtins, node.arg), f"L15 {name} {node.lineno}")

    def test_no_local_is_called_like_a_class_or_an_import(self):
        for name, tree in trees():
            tops = {alias.name for node in ast.walk(tree) if isinstance(node, ast.ImportFrom) for alias in node.names}
            tops |= {node.name for node in tree.body if isinstance(node, ast.ClassDef)}
            for node in ast.walk(tree):
                stored = isinstance(node, ast.arg) or isinstance(getattr(node, "ctx", None), ast.Store)
                if stored and not isinstance(node, ast.Attribute):
                    self.assertEqual(tops & set(bound_names(node)), set(), f"L15 {name} {node.lineno}")

    def test_is_stands_beside_none_true_false(self):
        for name, node in nodes_of(ast.Compare):
            for sign, side in zip(node.ops, node.comparators):
                if isinstance(sign, (ast.Is, ast.IsNot)):
                    beside = isinstance(side, ast.Constant) and (side.value is None or isinstance(side.value, bool))
                    self.assertTrue(beside, f"L20 {name} {node.lineno}")

    def test_methods_that_are_called(self):
        own = {method for name, tree in trees() for method in methods_of(tree)}
        for name, node in nodes_of(ast.Call):
            if isinstance(node.func, ast.Attribute):
                self.assertIn(node.func.attr, METHODS | own, f"L25 {name} {node.lineno}")

    def test_no_name_is_a_method_and_a_value(self):
        own = {method for name, tree in trees() for method in methods_of(tree)}
        for name, node in nodes_of(ast.Attribute):
            if isinstance(node.ctx, ast.Store):
                self.assertNotIn(node.attr, own, f"L18 {name} {node.lineno}")

    def test_no_two_files_draw_from_one_another(self):
        drawn = {name[:-3]: set() for name, tree in trees()}
        for name, node in nodes_of(ast.ImportFrom):
            if node.module != "__future__":
                drawn[name[:-3]].add(node.module.partition(".")[2])
        while drawn:
            free = [name for name, others in drawn.items() if not others]
            self.assertTrue(free, f"L16 {sorted(drawn)}")
            drawn = {name: others - set(free) for name, others in drawn.items() if name not in free}


if __name__ == "__main__":
    unittest.main()
