"""The rules of LANGUAGE.md that a walk over the package's files can see."""

import ast
import builtins
import pathlib
import re
import unittest

ROOT = pathlib.Path(__file__).resolve().parent.parent / "windchest"

BUILT_IN = set(
    "len range enumerate zip min max sum abs sorted reversed int str bool list tuple dict set frozenset "
    "isinstance ord repr any all divmod Exception ValueError TypeError KeyError IndexError LookupError "
    "ZeroDivisionError ArithmeticError OverflowError RuntimeError NotImplementedError AttributeError "
    "StopIteration".split()
)
OWN_OF_PYTHON = set(
    "append clear copy count endswith extend find get index insert isalnum isalpha isdigit islower isspace "
    "isupper items join keys ljust lower lstrip partition pop remove replace reverse rfind rjust rpartition "
    "rsplit rstrip setdefault split splitlines startswith strip update upper values zfill bit_length".split()
)
DOUBLE = {"__init__", "__eq__", "__repr__", "__str__", "__len__"}
NEVER = set("register mro elements open input version_info with_traceback add_note format format_map".split())
WORDS = re.compile(
    r"\b(type|typing|typing_extensions|enum|Enum|IntEnum|StrEnum|Flag|IntFlag|Generic|Protocol|ABC|ABCMeta|"
    r"namedtuple|NamedTuple|TypedDict|TYPE_CHECKING|abstractmethod)\b|dataclass|overload|contextmanager"
)
WALKED = ("zip", "enumerate", "reversed", "range", "items", "keys", "values")
WALKERS = ("list", "tuple", "dict", "sorted", "sum", "any", "all", "enumerate", "zip", "min", "max", "join")
CHANGING = ("append", "clear", "extend", "insert", "pop", "remove", "reverse", "setdefault", "update")
KEYWORDS = (
    ("sorted", "key"), ("sorted", "reverse"), ("min", "key"), ("min", "default"), ("max", "key"), ("max", "default"),
    ("sum", "start"), ("enumerate", "start"), ("zip", "strict"),
)
STATEMENTS = (
    ast.FunctionDef, ast.ClassDef, ast.Assign, ast.AugAssign, ast.If, ast.While, ast.For, ast.Return, ast.Break,
    ast.Continue, ast.Pass, ast.Raise, ast.Try, ast.Expr, ast.ImportFrom,
)
EXPRESSIONS = (
    ast.Constant, ast.Name, ast.Attribute, ast.Subscript, ast.Slice, ast.Call, ast.BinOp, ast.UnaryOp, ast.BoolOp,
    ast.Compare, ast.IfExp, ast.List, ast.Tuple, ast.Dict, ast.Set, ast.ListComp, ast.Lambda, ast.JoinedStr,
    ast.FormattedValue,
)


def files():
    return sorted(path for path in ROOT.rglob("*") if "__pycache__" not in path.parts)


def trees():
    return {path.name: ast.parse(path.read_text("utf-8")) for path in files()}


def is_docstring(node):
    return isinstance(node, ast.Expr) and isinstance(node.value, ast.Constant) and isinstance(node.value.value, str)


def names_of_top(tree):
    names = []
    for node in tree.body:
        if isinstance(node, (ast.FunctionDef, ast.ClassDef)):
            names.append(node.name)
        elif isinstance(node, ast.Assign):
            names.extend(target.id for target in node.targets)
        elif isinstance(node, ast.ImportFrom):
            names.extend(alias.asname or alias.name for alias in node.names)
    return names


def bound_within(tree):
    names = set()
    for node in ast.walk(tree):
        if isinstance(node, ast.Name) and isinstance(node.ctx, ast.Store):
            names.add(node.id)
        elif isinstance(node, ast.arg):
            names.add(node.arg)
        elif isinstance(node, ast.ExceptHandler) and node.name:
            names.add(node.name)
    return names


def methods_and_values(all_trees):
    methods, values = set(), set()
    for tree in all_trees.values():
        for node in ast.walk(tree):
            if isinstance(node, ast.ClassDef):
                methods |= {each.name for each in node.body if isinstance(each, ast.FunctionDef)}
            elif isinstance(node, ast.Attribute) and isinstance(node.ctx, ast.Store):
                values.add(node.attr)
    return methods, values


class TestFiles(unittest.TestCase):
    def test_names_of_files(self):
        self.assertTrue((ROOT / "__init__.py").is_file())
        for path in files():
            with self.subTest(path.name):
                self.assertTrue(path.is_file())
                self.assertRegex(path.name, r"^([a-z][a-z0-9_]*|__init__|__main__)\.py$")
                self.assertFalse(path.name.startswith("test") or path.stem in dir(builtins))

    def test_signs_and_sizes(self):
        for path in files():
            lines = path.read_text("utf-8").split("\n")
            with self.subTest(path.name):
                self.assertTrue(all(" " <= sign <= "~" for line in lines for sign in line))
                self.assertLessEqual(len(lines), 401)
                self.assertLessEqual(max(len(line) for line in lines), 120)

    def test_words_that_stand_nowhere(self):
        for path in files():
            with self.subTest(path.name):
                self.assertIsNone(WORDS.search(path.read_text("utf-8")))


class TestTop(unittest.TestCase):
    def test_what_stands_at_the_top(self):
        for name, tree in trees().items():
            for place, node in enumerate(tree.body):
                with self.subTest(name, line=node.lineno):
                    allowed = (ast.ImportFrom, ast.FunctionDef, ast.ClassDef, ast.Assign)
                    self.assertTrue(isinstance(node, allowed) or place == 0 and is_docstring(node))

    def test_values_at_the_top_are_plain(self):
        plain = (ast.Constant, ast.List, ast.Tuple, ast.Dict, ast.Name, ast.UnaryOp, ast.USub, ast.Load)
        for name, tree in trees().items():
            for node in tree.body:
                if isinstance(node, ast.Assign):
                    with self.subTest(name, line=node.lineno):
                        self.assertTrue(all(isinstance(each, plain) for each in ast.walk(node.value)))

    def test_each_name_once(self):
        for name, tree in trees().items():
            with self.subTest(name):
                names = names_of_top(tree)
                self.assertEqual(sorted(names), sorted(set(names)))

    def test_imports_are_from_the_file_that_defines_the_name(self):
        all_trees = trees()
        for name, tree in all_trees.items():
            for node in ast.walk(tree):
                if isinstance(node, ast.ImportFrom):
                    with self.subTest(name, line=node.lineno):
                        self.assertIn(node, tree.body)
                        self.assertEqual(node.level, 0)
                        package, _, module = node.module.partition(".")
                        self.assertEqual(package, "windchest")
                        source = all_trees[module + ".py"]
                        defined = [each.name for each in source.body
                                   if isinstance(each, (ast.FunctionDef, ast.ClassDef))]
                        defined += [target.id for each in source.body if isinstance(each, ast.Assign)
                                    for target in each.targets]
                        self.assertTrue(all(alias.name in defined for alias in node.names))

    def test_no_two_files_draw_from_one_another(self):
        drawn = {name: {node.module.partition(".")[2] + ".py" for node in tree.body
                        if isinstance(node, ast.ImportFrom)} for name, tree in trees().items()}
        for start in drawn:
            seen, left = set(), list(drawn[start])
            while left:
                name = left.pop()
                if name not in seen:
                    seen.add(name)
                    left.extend(drawn[name])
            self.assertNotIn(start, seen)


class TestStatementsAndExpressions(unittest.TestCase):
    def check_statement(self, node):
        self.assertIsInstance(node, STATEMENTS)
        if isinstance(node, ast.Assign):
            self.assertEqual(len(node.targets), 1)
        if isinstance(node, (ast.For, ast.While)):
            self.assertEqual(node.orelse, [])
        if isinstance(node, ast.Try):
            self.assertEqual(node.finalbody, [])
            self.assertTrue(all(handler.type is not None for handler in node.handlers))
        if isinstance(node, ast.Expr):
            self.assertTrue(isinstance(node.value, ast.Call) or is_docstring(node))
        if isinstance(node, (ast.FunctionDef, ast.ClassDef)):
            self.assertEqual(node.decorator_list, [])
        if isinstance(node, ast.FunctionDef):
            self.assertLessEqual(node.end_lineno - node.lineno + 1, 40)

    def check_expression(self, node):
        self.assertIsInstance(node, EXPRESSIONS)
        if isinstance(node, ast.Constant):
            self.assertTrue(node.value is None or type(node.value) in (int, str, bool))
            self.assertFalse(isinstance(node.value, str) and "%" in node.value)
        if isinstance(node, ast.BinOp):
            self.assertNotIsInstance(node.op, (ast.Div, ast.MatMult))
            if isinstance(node.op, ast.Pow):
                self.assertIsInstance(node.right, ast.Constant)
                self.assertTrue(0 <= node.right.value <= 64)
        if isinstance(node, ast.ListComp):
            self.assertEqual(len(node.generators), 1)
            self.assertLessEqual(len(node.generators[0].ifs), 1)
        if isinstance(node, ast.FormattedValue):
            self.assertIsInstance(node.value, ast.Name)
            self.assertIsNone(node.format_spec)
        if isinstance(node, ast.Compare):
            for operator, beside in zip(node.ops, node.comparators):
                if isinstance(operator, (ast.Is, ast.IsNot)):
                    self.assertIsInstance(beside, ast.Constant)
                    self.assertTrue(beside.value is None or isinstance(beside.value, bool))

    def test_all_nodes(self):
        for name, tree in trees().items():
            for node in ast.walk(tree):
                with self.subTest(name, line=getattr(node, "lineno", None)):
                    if isinstance(node, ast.stmt):
                        self.check_statement(node)
                    elif isinstance(node, ast.expr):
                        self.check_expression(node)
                    elif isinstance(node, ast.arguments):
                        self.assertIsNone(node.vararg)
                        self.assertIsNone(node.kwarg)
                        self.assertEqual(node.kwonlyargs + node.posonlyargs, [])

    def test_classes(self):
        for name, tree in trees().items():
            for node in ast.walk(tree):
                if isinstance(node, ast.ClassDef):
                    with self.subTest(name, line=node.lineno):
                        self.assertIn(node, tree.body)
                        self.assertLessEqual(len(node.bases), 1)
                        self.assertEqual(node.keywords, [])
                        for each in node.body:
                            self.assertTrue(isinstance(each, (ast.FunctionDef, ast.Pass)) or is_docstring(each))


class TestNames(unittest.TestCase):
    def test_names_are_plain(self):
        for name, tree in trees().items():
            methods, values = methods_and_values({name: tree})
            for each in set(names_of_top(tree)) | bound_within(tree) | methods | values:
                with self.subTest(name, each=each):
                    self.assertTrue(re.fullmatch(r"[A-Za-z][A-Za-z0-9_]*", each) or each in DOUBLE)
                    self.assertNotIn(each, NEVER)

    def test_nothing_is_called_like_a_name_of_pythons_own(self):
        for name, tree in trees().items():
            taken = (set(names_of_top(tree)) | bound_within(tree)) & set(dir(builtins))
            self.assertEqual(taken, set(), name)

    def test_names_that_are_read(self):
        for name, tree in trees().items():
            known = BUILT_IN | set(names_of_top(tree)) | bound_within(tree)
            known |= {node.name for node in ast.walk(tree) if isinstance(node, ast.FunctionDef)}
            for node in ast.walk(tree):
                if isinstance(node, ast.Name):
                    with self.subTest(name, line=node.lineno):
                        self.assertIn(node.id, known)

    def test_methods_and_values_that_are_asked_for(self):
        all_trees = trees()
        methods, values = methods_and_values(all_trees)
        self.assertEqual(methods & values, set())
        for name, tree in all_trees.items():
            for node in ast.walk(tree):
                if isinstance(node, ast.Attribute):
                    with self.subTest(name, line=node.lineno):
                        self.assertIn(node.attr, OWN_OF_PYTHON | methods | values | DOUBLE)

    def test_no_local_is_called_like_a_class_or_an_import(self):
        for name, tree in trees().items():
            locals_there = set()
            for node in tree.body:
                if isinstance(node, (ast.FunctionDef, ast.ClassDef)):
                    locals_there |= bound_within(node)
            taken = {each.name for each in tree.body if isinstance(each, ast.ClassDef)}
            for node in tree.body:
                if isinstance(node, ast.ImportFrom):
                    taken |= {alias.asname or alias.name for alias in node.names}
            self.assertEqual(locals_there & taken, set(), name)


class TestWalkedAtOnce(unittest.TestCase):
    def called(self, node):
        """The name of Python's own that this calls, or the method; None where it is no call."""
        if not isinstance(node, ast.Call):
            return None
        return node.func.id if isinstance(node.func, ast.Name) else getattr(node.func, "attr", None)

    def places_where_one_may_walk(self, tree):
        for node in ast.walk(tree):
            if isinstance(node, (ast.For, ast.comprehension)):
                yield node.iter
            elif self.called(node) in WALKERS and node.args:
                yield node.args[0]

    def places_where_a_set_may_stand(self, tree):
        for node in ast.walk(tree):
            if isinstance(node, ast.Compare):
                yield from node.comparators
                if isinstance(node.ops[0], (ast.Eq, ast.NotEq)):
                    yield node.left
            elif self.called(node) in ("sorted", "len") and not node.keywords:
                yield from node.args

    def test_what_is_walked_is_not_kept(self):
        for name, tree in trees().items():
            allowed = [id(node) for node in self.places_where_one_may_walk(tree)]
            for node in ast.walk(tree):
                if self.called(node) in WALKED:
                    with self.subTest(name, line=node.lineno):
                        self.assertIn(id(node), allowed)

    def test_sets_are_not_kept(self):
        for name, tree in trees().items():
            allowed = [id(node) for node in self.places_where_a_set_may_stand(tree)]
            for node in ast.walk(tree):
                if isinstance(node, ast.Set) or self.called(node) in ("set", "frozenset"):
                    with self.subTest(name, line=node.lineno):
                        self.assertIn(id(node), allowed)

    def test_what_a_loop_walks_is_not_changed_in_it(self):
        for name, tree in trees().items():
            for loop in ast.walk(tree):
                if isinstance(loop, ast.For):
                    walked = {each.id for each in ast.walk(loop.iter) if isinstance(each, ast.Name)}
                    for node in ast.walk(loop):
                        if self.called(node) in CHANGING and isinstance(node.func, ast.Attribute):
                            with self.subTest(name, line=node.lineno):
                                self.assertNotIn(getattr(node.func.value, "id", None), walked)

    def test_keywords(self):
        for name, tree in trees().items():
            for node in ast.walk(tree):
                if self.called(node) in BUILT_IN | OWN_OF_PYTHON:
                    for keyword in node.keywords:
                        with self.subTest(name, line=node.lineno):
                            self.assertIn((self.called(node), keyword.arg), KEYWORDS)


if __name__ == "__main__":
    unittest.main()
