"""The form of the package's own files, as far as a walk through their trees can see it."""

import ast
import builtins
import re
import unittest
from pathlib import Path

PACKAGE = Path(__file__).resolve().parent.parent / "beadrods"
FILES = sorted(PACKAGE.rglob("*.py"))

NODES = (
    "Module FunctionDef ClassDef arguments arg Return Assign AugAssign For While If Raise Try ExceptHandler Import "
    "ImportFrom alias Expr Pass Break Continue BoolOp And Or BinOp Add Sub Mult FloorDiv Mod Pow LShift RShift BitOr "
    "BitXor BitAnd UnaryOp Not USub Invert Lambda IfExp Dict Set ListComp comprehension Compare Eq NotEq Lt LtE Gt GtE "
    "Is IsNot In NotIn Call keyword JoinedStr FormattedValue Constant Attribute Subscript Name List Tuple Slice "
    "Load Store"
).split()
BUILT_IN = (
    "len range enumerate zip min max sum abs sorted reversed int str bool list tuple dict set frozenset isinstance ord "
    "repr any all divmod Exception ValueError TypeError KeyError IndexError LookupError ZeroDivisionError "
    "ArithmeticError OverflowError RuntimeError NotImplementedError AttributeError StopIteration"
).split()
METHODS = (
    "append clear copy count endswith extend find get index insert isalnum isalpha isdigit islower isspace isupper "
    "items join keys ljust lower lstrip partition pop remove replace reverse rfind rjust rpartition rsplit rstrip "
    "setdefault split splitlines startswith strip update upper values zfill bit_length"
).split()
WORDS = (
    "type typing typing_extensions enum Enum IntEnum StrEnum Flag IntFlag Generic Protocol ABC ABCMeta namedtuple "
    "NamedTuple TypedDict TYPE_CHECKING abstractmethod"
).split()
DUNDERS = ["__init__", "__eq__", "__repr__", "__str__", "__len__", "__all__", "__version__"]


def walk_all():
    for path in FILES:
        for node in ast.walk(ast.parse(path.read_text(encoding="utf-8"))):
            yield path.name, node


def names_bound(tree):
    for node in ast.walk(tree):
        if isinstance(node, ast.Name) and isinstance(node.ctx, ast.Store):
            yield node.id
        elif isinstance(node, (ast.FunctionDef, ast.ClassDef)):
            yield node.name
        elif isinstance(node, ast.arg):
            yield node.arg


class Signs(unittest.TestCase):
    def test_nothing_else_lies_in_the_package(self):
        for path in PACKAGE.rglob("*"):
            if "__pycache__" not in path.parts:
                self.assertTrue(path.is_dir() or path.suffix == ".py", path)

    def test_lines_and_signs(self):
        for path in FILES:
            text = path.read_text(encoding="utf-8")
            self.assertIsNone(re.search("[^ -~\n]", text), path)
            self.assertLessEqual(text.count("\n"), 400, path)
            self.assertLessEqual(max(map(len, text.split("\n"))), 120, path)

    def test_words_that_stand_nowhere(self):
        for path in FILES:
            text = path.read_text(encoding="utf-8")
            for word in WORDS:
                self.assertIsNone(re.search(rf"\b{word}\b", text), (path, word))
            self.assertIsNone(re.search("dataclass|overload|contextmanager", text), path)


class Trees(unittest.TestCase):
    def test_only_the_nodes_that_are_allowed(self):
        for name, node in walk_all():
            self.assertIn(type(node).__name__, NODES, (name, getattr(node, "lineno", 0)))

    def test_functions_are_short_and_plain(self):
        for name, node in walk_all():
            if isinstance(node, ast.FunctionDef):
                self.assertLessEqual(node.end_lineno - node.lineno + 1, 40, (name, node.name))
                self.assertEqual(node.decorator_list, [])
                self.assertIsNone(node.args.vararg or node.args.kwarg)
                self.assertEqual(node.args.kwonlyargs, [])

    def test_one_target_in_an_assignment(self):
        for name, node in walk_all():
            if isinstance(node, ast.Assign):
                self.assertEqual(len(node.targets), 1, (name, node.lineno))
                self.assertNotIsInstance(node.targets[0], (ast.Tuple, ast.List), (name, node.lineno))

    def test_statements_by_themselves_are_calls(self):
        for path in FILES:
            tree = ast.parse(path.read_text(encoding="utf-8"))
            for node in ast.walk(tree):
                if isinstance(node, ast.Expr) and node is not tree.body[0]:
                    self.assertIsInstance(node.value, ast.Call, (path, node.lineno))

    def test_is_stands_beside_none_and_truths(self):
        for name, node in walk_all():
            if isinstance(node, ast.Compare):
                for sign, right in zip(node.ops, node.comparators):
                    if isinstance(sign, (ast.Is, ast.IsNot)):
                        self.assertIsInstance(right, ast.Constant, (name, node.lineno))
                        self.assertIn(right.value, (None, True, False), (name, node.lineno))

    def test_powers_have_a_written_exponent(self):
        for name, node in walk_all():
            if isinstance(node, ast.BinOp) and isinstance(node.op, ast.Pow):
                self.assertIsInstance(node.right, ast.Constant, (name, node.lineno))

    def test_values_are_texts_whole_numbers_and_truths(self):
        for name, node in walk_all():
            if isinstance(node, ast.Constant):
                self.assertIsInstance(node.value, (int, str, type(None)), (name, node.lineno))
                if isinstance(node.value, str):
                    self.assertNotIn("%", node.value, (name, node.lineno))

    def test_comprehensions_have_one_for_and_at_most_one_if(self):
        for name, node in walk_all():
            if isinstance(node, ast.ListComp):
                self.assertEqual(len(node.generators), 1, (name, node.lineno))
                self.assertLessEqual(len(node.generators[0].ifs), 1, (name, node.lineno))

    def test_no_else_behind_a_loop_and_no_finally(self):
        for name, node in walk_all():
            if isinstance(node, (ast.For, ast.While)):
                self.assertEqual(node.orelse, [], (name, node.lineno))
            if isinstance(node, ast.Try):
                self.assertEqual(node.finalbody, [], (name, node.lineno))


class Names(unittest.TestCase):
    def test_bound_names_are_plain_and_none_of_pythons(self):
        for path in FILES:
            for name in names_bound(ast.parse(path.read_text(encoding="utf-8"))):
                if name not in DUNDERS:
                    self.assertRegex(name, "^[A-Za-z][A-Za-z0-9_]*$", path)
                    self.assertFalse(hasattr(builtins, name), (path, name))

    def test_locals_are_not_called_like_imports(self):
        for path in FILES:
            tree = ast.parse(path.read_text(encoding="utf-8"))
            drawn = {each.name for node in tree.body if isinstance(node, ast.ImportFrom) for each in node.names}
            self.assertEqual(drawn & set(names_bound(tree)), set(), path)

    def test_of_pythons_own_names_only_some_are_read(self):
        for name, node in walk_all():
            if isinstance(node, ast.Name) and hasattr(builtins, node.id):
                self.assertIn(node.id, BUILT_IN, (name, node.lineno))

    def test_a_name_is_bound_once_at_the_top(self):
        for path in FILES:
            bound = []
            for node in ast.parse(path.read_text(encoding="utf-8")).body:
                if isinstance(node, (ast.FunctionDef, ast.ClassDef)):
                    bound.append(node.name)
                elif isinstance(node, ast.Assign):
                    bound.append(node.targets[0].id)
                elif isinstance(node, ast.ImportFrom):
                    bound.extend(each.asname or each.name for each in node.names)
            self.assertEqual(len(bound), len(set(bound)), path)

    def test_methods_are_some_of_pythons_or_own(self):
        own = {node.name for _, node in walk_all() if isinstance(node, ast.FunctionDef)}
        for name, node in walk_all():
            if isinstance(node, ast.Call) and isinstance(node.func, ast.Attribute):
                self.assertIn(node.func.attr, set(METHODS) | own, (name, node.lineno))


class Classes(unittest.TestCase):
    def classes(self):
        return [node for _, node in walk_all() if isinstance(node, ast.ClassDef)]

    def values_given(self):
        for _, node in walk_all():
            if isinstance(node, ast.Attribute) and isinstance(node.ctx, ast.Store):
                self.assertIsInstance(node.value, ast.Name, node.lineno)
                self.assertFalse(node.value.id[0].isupper(), node.lineno)
                yield node.attr

    def test_classes_hold_methods_alone(self):
        for node in self.classes():
            self.assertEqual(node.decorator_list, [])
            self.assertLessEqual(len(node.bases), 1, node.name)
            for part in node.body:
                self.assertIsInstance(part, (ast.FunctionDef, ast.Pass), node.name)
            names = [part.name for part in node.body if isinstance(part, ast.FunctionDef)]
            self.assertEqual(len(names), len(set(names)), node.name)

    def test_classes_stand_at_the_top(self):
        at_top = [
            node for path in FILES for node in ast.parse(path.read_text(encoding="utf-8")).body
            if isinstance(node, ast.ClassDef)
        ]
        self.assertEqual(len(at_top), len(self.classes()))

    def test_no_name_is_a_method_and_a_value(self):
        methods = {part.name for node in self.classes() for part in node.body if isinstance(part, ast.FunctionDef)}
        values = set(self.values_given())
        self.assertEqual(methods & values, set())
        for name in values | (methods - set(DUNDERS) - {"add"}):
            for kind in (str, int, list, dict, set, bytes, tuple):
                self.assertFalse(hasattr(kind, name), (kind, name))

    def test_making_gives_back_nothing(self):
        for node in self.classes():
            for part in node.body:
                if isinstance(part, ast.FunctionDef) and part.name == "__init__":
                    self.assertFalse([each for each in ast.walk(part) if isinstance(each, ast.Return)])


class Imports(unittest.TestCase):
    def drawn_from(self, path):
        for node in ast.walk(ast.parse(path.read_text(encoding="utf-8"))):
            self.assertNotIsInstance(node, ast.Import, path)
            if isinstance(node, ast.ImportFrom):
                self.assertEqual(node.level, 0, path)
                self.assertRegex(node.module, r"^beadrods\.[a-z_]+$", path)
                yield node.module.split(".")[1], [each.name for each in node.names]

    def test_from_the_file_that_defines_the_name(self):
        for path in FILES:
            for file_name, names in self.drawn_from(path):
                body = ast.parse((PACKAGE / f"{file_name}.py").read_text(encoding="utf-8")).body
                defined = {node.name for node in body if isinstance(node, (ast.FunctionDef, ast.ClassDef))}
                defined |= {node.targets[0].id for node in body if isinstance(node, ast.Assign)}
                self.assertLessEqual(set(names), defined, path)

    def test_no_two_files_draw_from_one_another(self):
        draws = {path.stem: {name for name, _ in self.drawn_from(path)} for path in FILES}
        self.assertEqual(draws["__init__"], set())
        while draws:
            ready = [name for name in draws if not draws[name] & set(draws)]
            self.assertTrue(ready, draws)
            draws = {name: drawn for name, drawn in draws.items() if name not in ready}


if __name__ == "__main__":
    unittest.main()
