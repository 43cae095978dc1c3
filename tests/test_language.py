"""The package keeps to its small part of Python: the rules of the language document that a walk of the code can see."""

import ast
import builtins
import pathlib
import re
import unittest

PACKAGE = pathlib.Path(__file__).resolve().parent.parent / "clocktimes"

STATEMENTS = (
    ast.Assign, ast.AugAssign, ast.If, ast.While, ast.For, ast.Return, ast.Break, ast.Continue, ast.Pass, ast.Raise,
    ast.Try, ast.ExceptHandler, ast.Expr, ast.FunctionDef, ast.ClassDef, ast.ImportFrom,
)
EXPRESSIONS = (
    ast.Constant, ast.Name, ast.List, ast.Tuple, ast.Dict, ast.Set, ast.BinOp, ast.UnaryOp, ast.Compare, ast.BoolOp,
    ast.IfExp, ast.Call, ast.Attribute, ast.Subscript, ast.Slice, ast.ListComp, ast.JoinedStr, ast.FormattedValue,
    ast.Lambda,
)
PARTS = (
    ast.Module, ast.arguments, ast.arg, ast.keyword, ast.alias, ast.comprehension, ast.expr_context, ast.boolop,
    ast.cmpop, ast.unaryop, ast.operator,
)
OWN_OF_PYTHON = set("""
    len range enumerate zip min max sum abs sorted reversed int str bool list tuple dict set frozenset isinstance ord
    repr any all divmod Exception ValueError TypeError KeyError IndexError LookupError ZeroDivisionError
    ArithmeticError OverflowError RuntimeError NotImplementedError AttributeError StopIteration
""".split())
METHODS = set("""
    append clear copy count endswith extend find get index insert isalnum isalpha isdigit islower isspace isupper
    items join keys ljust lower lstrip partition pop remove replace reverse rfind rjust rpartition rsplit rstrip
    setdefault split splitlines startswith strip update upper values zfill bit_length
""".split())
WORDS = re.compile(
    r"\b(type|typing|typing_extensions|enum|Enum|IntEnum|StrEnum|Flag|IntFlag|Generic|Protocol|ABC|ABCMeta|"
    r"namedtuple|NamedTuple|TypedDict|TYPE_CHECKING|abstractmethod)\b|dataclass|overload|contextmanager"
)


def sources():
    return {file.stem: file.read_text(encoding="utf-8") for file in sorted(PACKAGE.glob("*.py"))}


def trees():
    return {name: ast.parse(text) for name, text in sources().items()}


def nodes_of(kinds):
    for name, tree in trees().items():
        for node in ast.walk(tree):
            if isinstance(node, kinds):
                yield name, node


def bound_at_top(tree):
    names = []
    for node in tree.body:
        if isinstance(node, (ast.FunctionDef, ast.ClassDef)):
            names.append(node.name)
        if isinstance(node, ast.Assign):
            names.append(node.targets[0].id)
    return names


class Files(unittest.TestCase):
    def test_nothing_but_plain_files(self):
        for file in PACKAGE.iterdir():
            if file.name != "__pycache__":
                self.assertRegex(file.name, r"^(__init__|__main__|[a-z][a-z0-9_]*)\.py$")
                self.assertNotIn(file.stem, dir(builtins))

    def test_sizes_and_signs(self):
        for name, text in sources().items():
            rows = text.split("\n")
            self.assertLessEqual(len(rows), 400, name)
            self.assertLessEqual(max(len(row) for row in rows), 120, name)
            self.assertRegex(text, r"\A[ -~\n]*\Z", name)
            self.assertIsNone(WORDS.search(text), name)

    def test_functions_are_small(self):
        for name, node in nodes_of(ast.FunctionDef):
            self.assertLessEqual(node.end_lineno - node.lineno + 1, 40, (name, node.name))


class Code(unittest.TestCase):
    def test_known_forms_alone(self):
        for name, node in nodes_of(ast.AST):
            self.assertIsInstance(node, STATEMENTS + EXPRESSIONS + PARTS, (name, getattr(node, "lineno", 0)))
            self.assertNotIsInstance(node, (ast.Div, ast.MatMult), name)

    def test_constants_are_whole_numbers_and_texts(self):
        for name, node in nodes_of(ast.Constant):
            self.assertIn(type(node.value), (int, str, bool, type(None)), (name, node.lineno))

    def test_the_top_of_a_file(self):
        for name, tree in trees().items():
            self.assertIsNotNone(ast.get_docstring(tree), name)
            allowed = (ast.ImportFrom, ast.FunctionDef, ast.ClassDef, ast.Assign)
            for node in tree.body[1:]:
                self.assertIsInstance(node, allowed, (name, node.lineno))
                if isinstance(node, ast.Assign):
                    ast.literal_eval(node.value)
            names = bound_at_top(tree)
            self.assertEqual(len(names), len(set(names)), name)

    def test_functions_and_classes_are_plain(self):
        for name, node in nodes_of((ast.FunctionDef, ast.ClassDef)):
            self.assertEqual(node.decorator_list, [], (name, node.name))
        for name, node in nodes_of(ast.arguments):
            self.assertEqual((node.vararg, node.kwarg, node.kwonlyargs, node.posonlyargs), (None, None, [], []), name)
        for name, node in nodes_of(ast.ClassDef):
            for part in node.body:
                self.assertIsInstance(part, ast.FunctionDef, (name, node.name))

    def test_a_call_is_all_that_stands_by_itself(self):
        for name, tree in trees().items():
            for node in ast.walk(tree):
                if isinstance(node, ast.Expr) and node is not tree.body[0]:
                    self.assertIsInstance(node.value, ast.Call, (name, node.lineno))

    def test_is_stands_beside_none_true_and_false_alone(self):
        for name, node in nodes_of(ast.Compare):
            if any(isinstance(sign, (ast.Is, ast.IsNot)) for sign in node.ops):
                sides = [node.left] + node.comparators
                self.assertTrue(any(isinstance(side, ast.Constant) and side.value in (None, True, False)
                                    for side in sides), (name, node.lineno))

    def test_walks_are_not_kept(self):
        for name, node in nodes_of((ast.Assign, ast.Return)):
            if isinstance(node.value, ast.Call) and isinstance(node.value.func, ast.Name):
                self.assertNotIn(node.value.func.id, ("zip", "enumerate", "reversed", "range"), (name, node.lineno))

    def test_statements_are_plain(self):
        for name, node in nodes_of((ast.For, ast.While)):
            self.assertEqual(node.orelse, [], (name, node.lineno))
        for name, node in nodes_of(ast.Assign):
            self.assertEqual(len(node.targets), 1, (name, node.lineno))
        for name, node in nodes_of(ast.ListComp):
            self.assertEqual(len(node.generators), 1, (name, node.lineno))

    def test_imports_are_from_the_file_that_defines_the_name(self):
        defined = {f"clocktimes.{name}": bound_at_top(tree) for name, tree in trees().items()}
        for name, node in nodes_of(ast.ImportFrom):
            self.assertEqual(node.level, 0, name)
            for alias in node.names:
                self.assertIn(alias.name, defined.get(node.module, []), (name, node.module))

    def test_no_two_files_draw_from_one_another(self):
        drawn = {}
        for name, node in nodes_of(ast.ImportFrom):
            drawn.setdefault(f"clocktimes.{name}", set()).add(node.module)
        while drawn:
            free = [name for name in drawn if not drawn[name] & set(drawn)]
            self.assertNotEqual(free, [], drawn)
            for name in free:
                del drawn[name]


class Names(unittest.TestCase):
    def test_pythons_own_names(self):
        others = set(dir(builtins)) - OWN_OF_PYTHON
        for name, node in nodes_of(ast.Name):
            self.assertNotIn(node.id, others, (name, node.lineno))
            if isinstance(node.ctx, ast.Store):
                self.assertNotIn(node.id, dir(builtins), (name, node.lineno))

    def test_own_names_are_plain(self):
        for name, node in nodes_of((ast.arg, ast.FunctionDef, ast.ClassDef, ast.Name)):
            own = getattr(node, "arg", None) or getattr(node, "name", None) or getattr(node, "id", None)
            self.assertRegex(own, r"^([A-Za-z][A-Za-z0-9_]*|__init__)$", (name, node.lineno))
            if not isinstance(node, ast.Name):
                self.assertNotIn(own, dir(builtins), (name, node.lineno))

    def test_no_local_is_called_like_an_import_or_a_class_of_its_file(self):
        for name, tree in trees().items():
            taken = {node.name for node in tree.body if isinstance(node, ast.ClassDef)}
            for node in tree.body:
                taken |= {alias.name for alias in node.names} if isinstance(node, ast.ImportFrom) else set()
            for node in ast.walk(tree):
                if isinstance(node, ast.arg):
                    self.assertNotIn(node.arg, taken, (name, node.lineno))
                if isinstance(node, ast.Name) and isinstance(node.ctx, ast.Store):
                    self.assertNotIn(node.id, taken, (name, node.lineno))

    def test_no_name_is_a_method_and_a_value(self):
        methods, values = set(), set()
        for name, node in nodes_of(ast.ClassDef):
            methods |= {part.name for part in node.body}
        for name, node in nodes_of(ast.Attribute):
            values |= {node.attr} if isinstance(node.ctx, ast.Store) else set()
        self.assertEqual(methods & values, set())

    def test_methods_are_own_ones_or_known_ones(self):
        own = {node.name for name, node in nodes_of(ast.FunctionDef)}
        for name, node in nodes_of(ast.Call):
            if isinstance(node.func, ast.Attribute):
                self.assertIn(node.func.attr, own | METHODS, (name, node.lineno))


if __name__ == "__main__":
    unittest.main()
