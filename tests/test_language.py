"""Those rules of the program's part of Python that a walk over its files can see."""

import ast
import builtins
import pathlib
import re
import unittest

PACKAGE = pathlib.Path(__file__).resolve().parent.parent / "boxwright"

STATEMENTS = (ast.Assign, ast.AugAssign, ast.If, ast.While, ast.For, ast.Return, ast.Break, ast.Continue, ast.Pass,
              ast.Raise, ast.Try, ast.Expr, ast.FunctionDef, ast.ClassDef, ast.ImportFrom)
EXPRESSIONS = (ast.Constant, ast.List, ast.Tuple, ast.Dict, ast.BinOp, ast.UnaryOp, ast.Compare, ast.BoolOp,
               ast.IfExp, ast.Call, ast.Attribute, ast.Subscript, ast.Slice, ast.ListComp, ast.JoinedStr,
               ast.FormattedValue, ast.Name, ast.Lambda)
BUILTINS = set("""len range enumerate zip min max sum abs sorted reversed int str bool list tuple dict set frozenset
    isinstance ord repr any all divmod Exception ValueError TypeError KeyError IndexError LookupError
    ZeroDivisionError ArithmeticError OverflowError RuntimeError NotImplementedError AttributeError
    StopIteration""".split())
METHODS = set("""append clear copy count endswith extend find get index insert isalnum isalpha isdigit islower isspace
    isupper items join keys ljust lower lstrip partition pop remove replace reverse rfind rjust rpartition rsplit
    rstrip setdefault split splitlines startswith strip update upper values zfill bit_length""".split())
KEYWORDS = {"sorted": {"key", "reverse"}, "min": {"key", "default"}, "max": {"key", "default"}, "sum": {"start"},
            "enumerate": {"start"}, "zip": {"strict"}}
NAMES_OUT = set("""register mro elements open input version_info with_traceback add_note attrgetter breakpoint builtins
    compile copyright credits delattr dir eval exec exit gc getattr globals hasattr help id importlib license locals
    methodcaller os quit setattr super type vars sys set frozenset chr""".split())
WALKED = {"zip", "enumerate", "reversed", "range", "items", "keys", "values"}
WALKERS = {"list", "tuple", "dict", "sorted", "sum", "any", "all", "enumerate", "zip", "min", "max", "join"}
CHANGES = {"append", "clear", "extend", "insert", "pop", "remove", "reverse", "setdefault", "update"}
WORDS_OUT = re.compile(r"\b(type|typing|typing_extensions|enum|Enum|IntEnum|StrEnum|Flag|IntFlag|Generic|Protocol|ABC|"
                       r"ABCMeta|namedtuple|NamedTuple|TypedDict|TYPE_CHECKING|abstractmethod)\b|"
                       r"dataclass|overload|contextmanager")


def files():
    return sorted(path for path in PACKAGE.iterdir() if path.name != "__pycache__")


def nodes(kind):
    for path in files():
        for node in ast.walk(ast.parse(path.read_text())):
            if isinstance(node, kind):
                yield f"{path.name}:{getattr(node, 'lineno', 0)}", node


def bound_names(node):
    if isinstance(node, ast.Name) and not isinstance(node.ctx, ast.Load):
        return [node.id]
    if isinstance(node, ast.arg):
        return [node.arg]
    if isinstance(node, (ast.FunctionDef, ast.ClassDef)):
        return [node.name]
    return []


def called(node):
    """The name of what is called, plain or behind a dot."""
    if isinstance(node, ast.Call):
        return getattr(node.func, "id", getattr(node.func, "attr", None))
    return None


def changed_names(node):
    """The names that hold what is changed within: by a method, or by an index that is given a value."""
    for inner in ast.walk(node):
        if isinstance(inner, ast.Call) and isinstance(inner.func, ast.Attribute) and inner.func.attr in CHANGES:
            yield ast.unparse(inner.func.value)
        if isinstance(inner, ast.Subscript) and not isinstance(inner.ctx, ast.Load):
            yield ast.unparse(inner.value)


def drawn_from(path):
    return {node.module.split(".")[1] for node in ast.parse(path.read_text()).body if isinstance(node, ast.ImportFrom)}


class TestLanguage(unittest.TestCase):
    def test_files(self):
        for path in files():
            self.assertRegex(path.name, r"^(__init__|[a-z][a-z0-9_]*)\.py$")
            text = path.read_text(encoding="utf-8")
            self.assertRegex(text, r"\A[ -~\n]*\Z", path.name)
            self.assertLessEqual(len(text.splitlines()), 400, path.name)
            self.assertLessEqual(max([len(line) for line in text.splitlines()], default=0), 120, path.name)
            self.assertIsNone(WORDS_OUT.search(text), path.name)

    def test_imports(self):
        for where, node in nodes(ast.ImportFrom):
            self.assertEqual(node.level, 0, where)
            self.assertTrue(node.module.startswith("boxwright."), where)
            self.assertNotIn("*", [name.name for name in node.names], where)

    def test_imports_are_from_where_the_name_is_defined(self):
        for where, node in nodes(ast.ImportFrom):
            tree = ast.parse((PACKAGE / (node.module.split(".")[1] + ".py")).read_text())
            defined = {name for inner in tree.body for part in ast.walk(inner) if not isinstance(inner, ast.ImportFrom)
                       for name in bound_names(part)}
            for name in node.names:
                self.assertIn(name.name, defined, where)
                self.assertIsNone(name.asname, where)

    def test_no_two_files_draw_from_one_another(self):
        left = {path.stem: drawn_from(path) for path in files()}
        while left:
            free = [stem for stem in left if not left[stem] & set(left)]
            self.assertNotEqual(free, [], sorted(left))
            left = {stem: left[stem] for stem in left if stem not in free}

    def test_what_is_bound_at_the_top(self):
        for path in files():
            body = ast.parse(path.read_text()).body
            for node in body[1:]:
                self.assertIsInstance(node, (ast.ImportFrom, ast.FunctionDef, ast.ClassDef, ast.Assign), path.name)
            names = [name for node in body for part in (node.targets if isinstance(node, ast.Assign) else [node])
                     for name in bound_names(part)]
            self.assertEqual(len(names), len(set(names)), path.name)
            drawn = {name.name for node in body if isinstance(node, ast.ImportFrom) for name in node.names}
            self.assertEqual(drawn & set(names), set(), path.name)
            for node in body:
                if isinstance(node, ast.FunctionDef):
                    local = {name for part in ast.walk(node) if part is not node for name in bound_names(part)}
                    self.assertEqual(local & (drawn | set(names)), set(), f"{path.name}:{node.name}")

    def test_statements_and_expressions(self):
        for where, node in nodes(ast.stmt):
            self.assertIsInstance(node, STATEMENTS, where)
        for where, node in nodes(ast.expr):
            self.assertIsInstance(node, EXPRESSIONS, where)

    def test_functions(self):
        for where, node in nodes(ast.FunctionDef):
            self.assertLessEqual(node.end_lineno - node.lineno + 1, 40, where)
            self.assertEqual(node.decorator_list, [], where)
            self.assertIsNone(node.args.vararg or node.args.kwarg, where)
            self.assertEqual(node.args.kwonlyargs + node.args.posonlyargs, [], where)

    def test_loops_and_assignments(self):
        for where, node in nodes((ast.For, ast.While)):
            self.assertEqual(node.orelse, [], where)
        for where, node in nodes(ast.Assign):
            self.assertEqual(len(node.targets), 1, where)
            self.assertNotIsInstance(node.targets[0], (ast.Tuple, ast.List), where)
        for where, node in nodes(ast.Try):
            self.assertEqual(node.finalbody, [], where)

    def test_names(self):
        for where, node in nodes(ast.Name):
            if node.id in vars(builtins):
                self.assertIn(node.id, BUILTINS, where)
        for where, node in nodes(ast.AST):
            for name in bound_names(node):
                self.assertRegex(name, r"^([A-Za-z][A-Za-z0-9_]*|__(init|eq|repr|str|len)__)$", where)
                self.assertNotIn(name, vars(builtins), where)

    def test_methods(self):
        own = {node.name for where, node in nodes(ast.FunctionDef)}
        for where, node in nodes(ast.Call):
            if isinstance(node.func, ast.Attribute):
                self.assertIn(node.func.attr, METHODS | own, where)

    def test_names_that_are_not_used(self):
        for where, node in nodes(ast.Name):
            self.assertNotIn(node.id, NAMES_OUT, where)
        for where, node in nodes(ast.Attribute):
            self.assertNotRegex(node.attr, "^(register|mro|elements|open|input|args|format|format_map|encode)$", where)

    def test_comprehensions_and_texts(self):
        for where, node in nodes(ast.ListComp):
            self.assertEqual(len(node.generators), 1, where)
            self.assertLessEqual(len(node.generators[0].ifs), 1, where)
        for where, node in nodes(ast.FormattedValue):
            self.assertIsInstance(node.value, ast.Name, where)
        for where, node in nodes(ast.Constant):
            self.assertIsInstance(node.value, (int, str, type(None)), where)
            self.assertNotIn("%", str(node.value), where)

    def test_keywords(self):
        for where, node in nodes(ast.Call):
            self.assertLessEqual({word.arg for word in node.keywords}, KEYWORDS.get(called(node), set()), where)

    def test_walked_on_the_spot(self):
        for path in files():
            tree = ast.parse(path.read_text())
            walked = {id(node.iter) for node in ast.walk(tree) if isinstance(node, (ast.For, ast.comprehension))}
            walked |= {id(node.args[0]) for node in ast.walk(tree) if called(node) in WALKERS and node.args}
            for node in ast.walk(tree):
                if called(node) in WALKED:
                    self.assertIn(id(node), walked, f"{path.name}:{node.lineno}")

    def test_what_a_loop_walks_is_not_changed_in_it(self):
        for where, node in nodes(ast.For):
            walked = {ast.unparse(inner) for inner in ast.walk(node.iter)
                      if isinstance(inner, (ast.Name, ast.Attribute, ast.Subscript))}
            for part in node.body:
                self.assertEqual(walked & set(changed_names(part)), set(), where)

    def test_operators(self):
        for where, node in nodes((ast.BinOp, ast.AugAssign)):
            self.assertNotIsInstance(node.op, (ast.Div, ast.MatMult), where)
        for where, node in nodes(ast.Compare):
            for operator, side in zip(node.ops, node.comparators):
                if isinstance(operator, (ast.Is, ast.IsNot)):
                    self.assertIsInstance(side, ast.Constant, where)


if __name__ == "__main__":
    unittest.main()
