"""Those rules of the program's part of Python that a walk over its files can see."""

import ast
import builtins
import pathlib
import re
import unittest

PACKAGE = pathlib.Path(__file__).resolve().parent.parent / "boxwright"

STATEMENTS = (ast.Assign, ast.AugAssign, ast.If, ast.While, ast.For, ast.Return, ast.Break, ast.Continue, ast.Pass,
              ast.Raise, ast.Try, ast.Expr, ast.FunctionDef, ast.ClassDef, ast.ImportFrom)
EXPRESSIONS = (ast.Constant, ast.List, ast.Tuple, ast.Dict, ast.Set, ast.BinOp, ast.UnaryOp, ast.Compare, ast.BoolOp,
               ast.IfExp, ast.Call, ast.Attribute, ast.Subscript, ast.Slice, ast.ListComp, ast.JoinedStr,
               ast.FormattedValue, ast.Name, ast.Lambda)
BUILTINS = set("""len range enumerate zip min max sum abs sorted reversed int str bool list tuple dict set frozenset
    isinstance ord repr any all divmod Exception ValueError TypeError KeyError IndexError LookupError
    ZeroDivisionError ArithmeticError OverflowError RuntimeError NotImplementedError AttributeError
    StopIteration""".split())
METHODS = set("""append clear copy count endswith extend find get index insert isalnum isalpha isdigit islower isspace
    isupper items join keys ljust lower lstrip partition pop remove replace reverse rfind rjust rpartition rsplit
    rstrip setdefault split splitlines startswith strip update upper values zfill bit_length""".split())
WORDS_OUT = re.compile(r"\b(type|typing|typing_extensions|enum|Enum|IntEnum|StrEnum|Flag|IntFlag|Generic|Protocol|ABC|"
                       r"ABCMeta|namedtuple|NamedTuple|TypedDict|TYPE_CHECKING|abstractmethod)\b|"
                       r"dataclass|overload|contextmanager")


def files():
    return sorted(path for path in PACKAGE.iterdir() if path.name != "__pycache__")


def nodes(kind):
    for path in files():
        for node in ast.walk(ast.parse(path.read_text())):
            if isinstance(node, kind):
                yield f"{path.name}:{getattr(node, 'lineno', 0)}", node


def bound_names(node):
    if isinstance(node, ast.Name) and not isinstance(node.ctx, ast.Load):
        return [node.id]
    if isinstance(node, ast.arg):
        return [node.arg]
    if isinstance(node, (ast.FunctionDef, ast.ClassDef)):
        return [node.name]
    return []


class TestLanguage(unittest.TestCase):
    def test_files(self):
        for path in files():
            self.assertRegex(path.name, r"^(__init__|[a-z][a-z0-9_]*)\.py$")
            text = path.read_text(encoding="utf-8")
            self.assertRegex(text, r"\A[ -~\n]*\Z", path.name)
            self.assertLessEqual(len(text.splitlines()), 400, path.name)
            self.assertLessEqual(max([len(line) for line in text.splitlines()], default=0), 120, path.name)
            self.assertIsNone(WORDS_OUT.search(text), path.name)

    def test_imports(self):
        for where, node in nodes(ast.ImportFrom):
            self.assertEqual(node.level, 0, where)
            self.assertTrue(node.module.startswith("boxwright."), where)
            self.assertNotIn("*", [name.name for name in node.names], where)

    def test_statements_and_expressions(self):
        for where, node in nodes(ast.stmt):
            self.assertIsInstance(node, STATEMENTS, where)
        for where, node in nodes(ast.expr):
            self.assertIsInstance(node, EXPRESSIONS, where)

    def test_functions(self):
        for where, node in nodes(ast.FunctionDef):
            self.assertLessEqual(node.end_lineno - node.lineno + 1, 40, where)
            self.assertEqual(node.decorator_list, [], where)
            self.assertIsNone(node.args.vararg or node.args.kwarg, where)
            self.assertEqual(node.args.kwonlyargs + node.args.posonlyargs, [], where)

    def test_loops_and_assignments(self):
        for where, node in nodes((ast.For, ast.While)):
            self.assertEqual(node.orelse, [], where)
        for where, node in nodes(ast.Assign):
            self.assertEqual(len(node.targets), 1, where)
        for where, node in nodes(ast.Try):
            self.assertEqual(node.finalbody, [], where)

    def test_names(self):
        for where, node in nodes(ast.Name):
            if node.id in vars(builtins):
                self.assertIn(node.id, BUILTINS, where)
        for where, node in nodes(ast.AST):
            for name in bound_names(node):
                self.assertRegex(name, r"^([A-Za-z][A-Za-z0-9_]*|__(init|eq|repr|str|len)__)$", where)
                self.assertNotIn(name, vars(builtins), where)

    def test_methods(self):
        own = {node.name for where, node in nodes(ast.FunctionDef)}
        for where, node in nodes(ast.Call):
            if isinstance(node.func, ast.Attribute):
                self.assertIn(node.func.attr, METHODS | own, where)

    def test_operators(self):
        for where, node in nodes((ast.BinOp, ast.AugAssign)):
            self.assertNotIsInstance(node.op, (ast.Div, ast.MatMult), where)
        for where, node in nodes(ast.Compare):
            for operator, side in zip(node.ops, node.comparators):
                if isinstance(operator, (ast.Is, ast.IsNot)):
                    self.assertIsInstance(side, ast.Constant, where)


if __name__ == "__main__":
    unittest.main()
