"""The form of the package's files: the small part of Python that the program keeps to."""

import ast
import builtins
import pathlib
import re
import unittest

PACKAGE = pathlib.Path(__file__).resolve().parent.parent / "pricebook"
FILES = sorted(PACKAGE.rglob("*.py"))
OWN_NAMES = (
    "len range enumerate zip min max sum abs sorted reversed int str bool list tuple dict set frozenset isinstance "
    "ord repr any all divmod Exception ValueError TypeError KeyError IndexError LookupError ZeroDivisionError "
    "ArithmeticError OverflowError RuntimeError NotImplementedError AttributeError StopIteration"
).split()
METHODS = (
    "append clear copy count endswith extend find get index insert isalnum isalpha isdigit islower isspace isupper "
    "items join keys ljust lower lstrip partition pop remove replace reverse rfind rjust rpartition rsplit rstrip "
    "setdefault split splitlines startswith strip update upper values zfill bit_length"
).split()
WORDS_NOWHERE = (
    "type typing typing_extensions enum Enum IntEnum StrEnum Flag IntFlag Generic Protocol ABC ABCMeta namedtuple "
    "NamedTuple TypedDict TYPE_CHECKING abstractmethod"
).split()
NAMES_NOWHERE = (
    "register mro elements open input version_info with_traceback add_note attrgetter breakpoint builtins compile "
    "copyright credits delattr dir eval exec exit gc getattr globals hasattr help id importlib license locals "
    "methodcaller os quit setattr super type vars sys chr print"
).split()
STATEMENTS = (
    ast.Assign, ast.AugAssign, ast.If, ast.While, ast.For, ast.Return, ast.Break, ast.Continue, ast.Pass, ast.Raise,
    ast.Try, ast.Expr, ast.FunctionDef, ast.ClassDef, ast.ImportFrom,
)
EXPRESSIONS_OUT = (
    ast.Div, ast.SetComp, ast.DictComp, ast.GeneratorExp, ast.NamedExpr, ast.Starred, ast.Yield, ast.YieldFrom, ast.Await,
    ast.Set,
)
VALUES_OUT = (
    "items keys values pop update append clear extend insert remove reverse setdefault sort args encode format"
).split()


def walk():
    for path in FILES:
        for node in ast.walk(ast.parse(path.read_text(encoding="ascii"))):
            yield path.name, node


def bound_names(function):
    names = [argument.arg for argument in function.args.args]
    for node in ast.walk(function):
        if isinstance(node, ast.Name) and isinstance(node.ctx, ast.Store):
            names.append(node.id)
        if isinstance(node, ast.arg):
            names.append(node.arg)
        if isinstance(node, ast.ExceptHandler) and node.name:
            names.append(node.name)
    return names


class Form(unittest.TestCase):
    def test_files(self):
        there = [path for path in PACKAGE.rglob("*") if path.name != "__pycache__" and path.suffix != ".pyc"]
        self.assertEqual(sorted(there), FILES)
        self.assertIn(PACKAGE / "__init__.py", FILES)
        for path in FILES:
            self.assertRegex(path.name, r"\A[a-z_][a-z0-9_]*\.py\Z")
            self.assertNotIn(path.stem, dir(builtins))
            text = path.read_text(encoding="ascii")
            self.assertIsNone(re.search(r"[^\n -~]", text), path.name)
            rows = text.splitlines()
            self.assertLessEqual(len(rows), 400, path.name)
            self.assertLessEqual(max(len(row) for row in rows), 120, path.name)
            for word in re.findall(r"\w+", text):
                self.assertNotIn(word, WORDS_NOWHERE, path.name)
                self.assertNotRegex(word, "dataclass|overload|contextmanager")

    def test_statements_and_expressions(self):
        for name, node in walk():
            where = (name, getattr(node, "lineno", 0))
            if isinstance(node, ast.stmt):
                self.assertIsInstance(node, STATEMENTS, where)
            self.assertNotIsInstance(node, EXPRESSIONS_OUT, where)
            if isinstance(node, ast.Assign):
                self.assertEqual(len(node.targets), 1, where)
            if isinstance(node, (ast.For, ast.While)):
                self.assertEqual(node.orelse, [], where)
            if isinstance(node, ast.Try):
                self.assertEqual(node.finalbody, [], where)
            if isinstance(node, ast.Constant):
                self.assertIn(node.value.__class__, (int, str, bool, None.__class__), where)
                self.assertNotIn("%", str(node.value), where)
            if isinstance(node, ast.ListComp):
                self.assertEqual(len(node.generators), 1, where)
                self.assertLessEqual(len(node.generators[0].ifs), 1, where)
            if isinstance(node, ast.Compare) and isinstance(node.ops[0], (ast.Is, ast.IsNot)):
                self.assertIn(node.comparators[0].value, (None, True, False), where)
            if isinstance(node, ast.BinOp) and isinstance(node.op, ast.Pow):
                self.assertIsInstance(node.right, ast.Constant, where)

    def test_functions_and_classes(self):
        methods, values = set(), set()
        for name, node in walk():
            where = (name, getattr(node, "lineno", 0))
            if isinstance(node, ast.FunctionDef):
                self.assertLessEqual(node.end_lineno - node.lineno + 1, 40, where)
                arguments = node.args
                self.assertEqual([node.decorator_list, arguments.kwonlyargs, arguments.posonlyargs], [[], [], []], where)
                self.assertEqual([arguments.vararg, arguments.kwarg, node.returns], [None, None, None], where)
                self.assertEqual([a.arg for a in arguments.args if a.annotation], [], where)
            if isinstance(node, ast.ClassDef):
                self.assertEqual(node.decorator_list, [], where)
                self.assertLessEqual(len(node.bases), 1, where)
                for part in node.body:
                    self.assertIsInstance(part, (ast.FunctionDef, ast.Pass), where)
                    if isinstance(part, ast.FunctionDef):
                        methods.add(part.name)
            if isinstance(node, ast.Attribute) and isinstance(node.ctx, ast.Store):
                values.add(node.attr)
        self.assertEqual(methods & values, set())
        self.assertEqual(values & set(VALUES_OUT), set())

    def test_names(self):
        for path in FILES:
            tree = ast.parse(path.read_text(encoding="ascii"))
            imported = [alias.name for node in tree.body if isinstance(node, ast.ImportFrom) for alias in node.names]
            classes = [node.name for node in tree.body if isinstance(node, ast.ClassDef)]
            for node in ast.walk(tree):
                if isinstance(node, ast.FunctionDef):
                    for name in bound_names(node):
                        self.assertNotIn(name, imported + classes + dir(builtins), (path.name, node.name))
                        self.assertRegex(name, r"\A[A-Za-z][A-Za-z0-9_]*\Z")
                if isinstance(node, ast.Name):
                    self.assertNotIn(node.id, NAMES_NOWHERE, path.name)
                    if node.id in dir(builtins):
                        self.assertIn(node.id, OWN_NAMES, (path.name, node.lineno))

    def test_methods_are_those_allowed(self):
        own = {node.name for name, node in walk() if isinstance(node, ast.FunctionDef)}
        for name, node in walk():
            if isinstance(node, ast.Call) and isinstance(node.func, ast.Attribute):
                self.assertIn(node.func.attr, own | set(METHODS), (name, node.lineno))

    def test_imports(self):
        for path in FILES:
            tree = ast.parse(path.read_text(encoding="ascii"))
            for node in tree.body:
                if isinstance(node, ast.ImportFrom):
                    self.assertEqual(node.level, 0)
                    self.assertRegex(node.module, r"\Apricebook\.[a-z]+\Z")
                    source = ast.parse((PACKAGE / (node.module.split(".")[1] + ".py")).read_text(encoding="ascii"))
                    there = {part.name for part in source.body if isinstance(part, (ast.FunctionDef, ast.ClassDef))}
                    there |= {part.targets[0].id for part in source.body if isinstance(part, ast.Assign)}
                    for alias in node.names:
                        self.assertIn(alias.name, there, path.name)
                        self.assertIsNone(alias.asname)

    def test_no_two_files_draw_from_one_another(self):
        drawn = {}
        for path in FILES:
            tree = ast.parse(path.read_text(encoding="ascii"))
            drawn[path.stem] = {node.module.split(".")[1] for node in tree.body if isinstance(node, ast.ImportFrom)}
        while drawn:
            free = [name for name, others in drawn.items() if not others & set(drawn)]
            self.assertNotEqual(free, [], sorted(drawn))
            for name in free:
                drawn.pop(name)

    def test_each_name_is_bound_once(self):
        for path in FILES:
            bound = []
            for node in ast.parse(path.read_text(encoding="ascii")).body:
                if isinstance(node, (ast.FunctionDef, ast.ClassDef)):
                    bound.append(node.name)
                elif isinstance(node, ast.ImportFrom):
                    bound += [alias.name for alias in node.names]
                elif isinstance(node, ast.Assign):
                    bound.append(node.targets[0].id)
            self.assertEqual(len(bound), len(set(bound)), path.name)


if __name__ == "__main__":
    unittest.main()
