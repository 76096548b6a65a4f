"""The rules of the small part of Python that the package keeps to, as far as a program can see them."""

import ast
import builtins
import pathlib
import re
import unittest

PACKAGE = pathlib.Path(__file__).resolve().parent.parent / "waysum"

OWN_NAMES = set(
    "len range enumerate zip min max sum abs sorted reversed int str bool list tuple dict set frozenset isinstance ord "
    "repr any all divmod Exception ValueError TypeError KeyError IndexError LookupError ZeroDivisionError "
    "ArithmeticError OverflowError RuntimeError NotImplementedError AttributeError StopIteration".split()
)
METHODS = set(
    "append clear copy count endswith extend find get index insert isalnum isalpha isdigit islower isspace isupper items "
    "join keys ljust lower lstrip partition pop remove replace reverse rfind rjust rpartition rsplit rstrip setdefault "
    "split splitlines startswith strip update upper values zfill bit_length".split()
)
UNDERSCORED = {"__init__", "__eq__", "__repr__", "__str__", "__len__"}
UNUSED = set(
    "register mro elements open input version_info with_traceback add_note format format_map attrgetter breakpoint "
    "builtins compile delattr dir eval exec exit gc getattr globals hasattr help id importlib locals methodcaller os "
    "quit setattr super vars sys".split()
)
WORDS = re.compile(
    r"\b(type|typing|typing_extensions|enum|Enum|IntEnum|StrEnum|Flag|IntFlag|Generic|Protocol|ABC|ABCMeta|namedtuple"
    r"|NamedTuple|TypedDict|TYPE_CHECKING|abstractmethod)\b|dataclass|overload|contextmanager"
)
NODES = (
    ast.Module, ast.ImportFrom, ast.alias, ast.FunctionDef, ast.ClassDef, ast.arguments, ast.arg, ast.Lambda,
    ast.Assign, ast.AugAssign, ast.If, ast.While, ast.For, ast.Return, ast.Break, ast.Continue, ast.Pass, ast.Raise,
    ast.Try, ast.ExceptHandler, ast.Expr, ast.Constant, ast.Name, ast.Load, ast.Store, ast.List, ast.Tuple, ast.Dict,
    ast.BinOp, ast.UnaryOp, ast.BoolOp, ast.Compare, ast.IfExp, ast.Call, ast.keyword, ast.Attribute, ast.Subscript,
    ast.Slice, ast.ListComp, ast.comprehension, ast.JoinedStr, ast.FormattedValue, ast.operator, ast.unaryop,
    ast.boolop, ast.cmpop,
)


def files():
    return sorted(path for path in PACKAGE.rglob("*") if path.is_file() and "__pycache__" not in path.parts)


def parsed():
    told = []
    for path in files():
        text = path.read_text(encoding="utf-8")
        told.append((path, text, ast.parse(text)))
    return told


def own_methods(trees):
    classes = [node for tree in trees for node in tree.body if isinstance(node, ast.ClassDef)]
    return {node.name for each in classes for node in each.body if isinstance(node, ast.FunctionDef)}


def bound_names(tree):
    names = set()
    for node in ast.walk(tree):
        if isinstance(node, (ast.FunctionDef, ast.ClassDef)):
            names.add(node.name)
        elif isinstance(node, ast.arg):
            names.add(node.arg)
        elif isinstance(node, ast.alias):
            names.add(node.asname or node.name)
        elif isinstance(node, ast.Name) and isinstance(node.ctx, ast.Store):
            names.add(node.id)
    return names


class TheFiles(unittest.TestCase):
    def in_each_file(self, check):
        for path, text, tree in parsed():
            with self.subTest(file=path.name):
                check(path, text, tree)

    def test_files_and_signs(self):
        def check(path, text, tree):
            self.assertRegex(path.name, r"\A(__init__|__main__|[a-z][a-z0-9_]*)\.py\Z")
            self.assertRegex(text, r"\A[ -~\n]*\Z")
            self.assertIsNone(WORDS.search(text))
            self.assertLessEqual(len(text.splitlines()), 400)
            self.assertLessEqual(max(len(line) for line in text.splitlines()), 120)

        self.in_each_file(check)

    def test_the_top_of_a_file(self):
        def check(path, text, tree):
            for at, node in enumerate(tree.body):
                if at == 0 and isinstance(node, ast.Expr):
                    self.assertIsInstance(node.value.value, str)
                elif isinstance(node, ast.Assign):
                    ast.literal_eval(node.value)
                else:
                    self.assertIsInstance(node, (ast.ImportFrom, ast.FunctionDef, ast.ClassDef))

        self.in_each_file(check)

    def test_imports(self):
        def check(path, text, tree):
            for node in ast.walk(tree):
                if isinstance(node, ast.ImportFrom):
                    self.assertEqual(node.level, 0)
                    self.assertRegex(node.module, r"\Awaysum\.[a-z_]+\Z")
                    drawn = ast.parse((PACKAGE / (node.module.split(".")[1] + ".py")).read_text())
                    defined = {each.name for each in drawn.body if isinstance(each, (ast.FunctionDef, ast.ClassDef))}
                    given = [each for each in drawn.body if isinstance(each, ast.Assign)]
                    defined |= {target.id for each in given for target in each.targets}
                    self.assertLessEqual({each.name for each in node.names}, defined)

        self.in_each_file(check)

    def test_statements_and_expressions(self):
        def check(path, text, tree):
            for node in ast.walk(tree):
                self.assertIsInstance(node, NODES)
                self.assertNotIsInstance(node, (ast.Div, ast.MatMult))
                if isinstance(node, ast.Constant):
                    self.assertIn(type(node.value), (int, str, bool, type(None)))
                if isinstance(node, ast.Assign):
                    self.assertEqual(len(node.targets), 1)
                    self.assertIsInstance(node.targets[0], (ast.Name, ast.Attribute, ast.Subscript))
                if isinstance(node, (ast.For, ast.While)):
                    self.assertEqual(node.orelse, [])
                if isinstance(node, ast.Try):
                    self.assertEqual(node.finalbody, [])
                if isinstance(node, ast.ListComp):
                    self.assertEqual(len(node.generators), 1)
                    self.assertLessEqual(len(node.generators[0].ifs), 1)
                if isinstance(node, ast.BinOp) and isinstance(node.op, ast.Pow):
                    self.assertIsInstance(node.right, ast.Constant)
                if isinstance(node, ast.Compare) and any(isinstance(op, (ast.Is, ast.IsNot)) for op in node.ops):
                    self.assertIsInstance(node.comparators[-1], ast.Constant)

        self.in_each_file(check)

    def test_functions_and_classes(self):
        def check(path, text, tree):
            for node in ast.walk(tree):
                if isinstance(node, (ast.FunctionDef, ast.ClassDef)):
                    self.assertEqual(node.decorator_list, [])
                if isinstance(node, ast.FunctionDef):
                    self.assertLessEqual(node.end_lineno - node.lineno + 1, 40, node.name)
                    handed = node.args
                    self.assertEqual((handed.vararg, handed.kwarg, handed.kwonlyargs), (None, None, []))
                if isinstance(node, ast.ClassDef):
                    self.assertLessEqual(len(node.bases), 1)
                    for each in node.body:
                        self.assertIsInstance(each, (ast.FunctionDef, ast.Pass))

        self.in_each_file(check)

    def test_names(self):
        methods = own_methods([tree for path, text, tree in parsed()])

        def check(path, text, tree):
            bound = bound_names(tree)
            for name in bound - UNDERSCORED:
                self.assertRegex(name, r"\A[A-Za-z][A-Za-z0-9_]*\Z")
            self.assertEqual(bound & (OWN_NAMES | UNUSED), set())
            for node in ast.walk(tree):
                if isinstance(node, ast.Name):
                    self.assertIn(node.id, bound | OWN_NAMES)
                if isinstance(node, ast.Attribute):
                    self.assertNotIn(node.attr, UNUSED)
                if isinstance(node, ast.Call) and isinstance(node.func, ast.Attribute):
                    self.assertIn(node.func.attr, METHODS | methods | UNDERSCORED)

        self.in_each_file(check)

    def test_no_parameter_or_local_is_called_like_a_class_an_import_or_a_name_of_pythons_own(self):
        def check(path, text, tree):
            taken = set(dir(builtins))
            for node in tree.body:
                if isinstance(node, ast.ImportFrom):
                    taken |= {each.asname or each.name for each in node.names}
                if isinstance(node, ast.ClassDef):
                    taken.add(node.name)
            for node in ast.walk(tree):
                if isinstance(node, ast.arg):
                    self.assertNotIn(node.arg, taken)
                if isinstance(node, ast.Name) and isinstance(node.ctx, ast.Store):
                    self.assertNotIn(node.id, taken)

        self.in_each_file(check)

    def test_no_two_files_draw_from_one_another(self):
        drawn = {}
        for path, text, tree in parsed():
            froms = [node.module.split(".")[1] for node in ast.walk(tree) if isinstance(node, ast.ImportFrom)]
            drawn[path.stem] = set(froms)
        while drawn:
            free = [name for name in drawn if not drawn[name] & set(drawn)]
            self.assertNotEqual(free, [], drawn)
            for name in free:
                drawn.pop(name)

    def test_no_name_is_a_method_here_and_a_value_there(self):
        trees = [tree for path, text, tree in parsed()]
        attributes = [node for tree in trees for node in ast.walk(tree) if isinstance(node, ast.Attribute)]
        values = {node.attr for node in attributes if isinstance(node.ctx, ast.Store)}
        self.assertEqual(values & own_methods(trees), set())


if __name__ == "__main__":
    unittest.main()
