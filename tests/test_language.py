"""A part of the language's rules, those that can be read off a file's tree."""

import ast
import builtins
import pathlib
import re
import unittest

import posthouse

PACKAGE = pathlib.Path(posthouse.__file__).resolve().parent
FILES = sorted(PACKAGE.rglob("*.py"))

OWN_NAMES = set(
    "len range enumerate zip min max sum abs sorted reversed int str bool list tuple dict set frozenset isinstance "
    "ord repr any all divmod Exception ValueError TypeError KeyError IndexError LookupError ZeroDivisionError "
    "ArithmeticError OverflowError RuntimeError NotImplementedError AttributeError StopIteration".split()
)
RULED_OUT = (
    ast.With, ast.Match, ast.Delete, ast.Global, ast.Nonlocal, ast.Assert, ast.Yield, ast.YieldFrom, ast.Await,
    ast.AsyncFunctionDef, ast.AsyncFor, ast.AsyncWith, ast.SetComp, ast.DictComp, ast.GeneratorExp, ast.NamedExpr,
    ast.Starred, ast.Div, ast.MatMult,
)
WORDS = re.compile(
    r"\b(type|typing|typing_extensions|enum|Enum|IntEnum|StrEnum|Flag|IntFlag|Generic|Protocol|ABC|ABCMeta|"
    r"namedtuple|NamedTuple|TypedDict|TYPE_CHECKING|abstractmethod)\b|dataclass|overload|contextmanager"
)
METHODS = set(
    "append clear copy count endswith extend find get index insert isalnum isalpha isdigit islower isspace isupper "
    "items join keys ljust lower lstrip partition pop remove replace reverse rfind rjust rpartition rsplit rstrip "
    "setdefault split splitlines startswith strip update upper values zfill bit_length".split()
)
CHANGING = set("append clear extend insert pop remove reverse setdefault update".split())
STATEMENTS = (
    ast.FunctionDef, ast.Assign, ast.AugAssign, ast.If, ast.While, ast.For, ast.Return, ast.Break, ast.Continue, ast.Pass,
    ast.Raise, ast.Try,
)
EXPRESSIONS = (
    ast.Constant, ast.List, ast.Tuple, ast.Dict, ast.Set, ast.BinOp, ast.UnaryOp, ast.BoolOp, ast.Compare, ast.IfExp, ast.Call,
    ast.Attribute, ast.Subscript, ast.Slice, ast.ListComp, ast.JoinedStr, ast.FormattedValue, ast.Lambda, ast.Name,
)
NOT_AS_NAMES = set(
    "attrgetter breakpoint builtins compile copyright credits delattr dir eval exec exit gc getattr globals hasattr help id "
    "importlib license locals methodcaller os quit setattr super type vars sys __name__ register mro elements open input "
    "version_info with_traceback add_note format format_map".split()
)
WALKED_IN = ("list", "tuple", "dict", "sorted", "sum", "any", "all", "enumerate", "zip", "min", "max")
KEYWORDS = {
    "sorted": ("key", "reverse"), "min": ("key", "default"), "max": ("key", "default"), "sum": ("start",),
    "enumerate": ("start",), "zip": ("strict",),
}
TAKEN = ("KeyError", "ZeroDivisionError", "StopIteration")
DUNDERS = ("__init__", "__eq__", "__repr__", "__str__", "__len__", "__name__")


def names_in(tree):
    for node in ast.walk(tree):
        if isinstance(node, ast.Name):
            yield node.id
        elif isinstance(node, ast.Attribute):
            yield node.attr
        elif isinstance(node, ast.arg):
            yield node.arg
        elif isinstance(node, (ast.FunctionDef, ast.ClassDef)):
            yield node.name


def trees():
    return [(path.name, ast.parse(path.read_text())) for path in FILES]


def own_methods():
    classes = [node for name, tree in trees() for node in tree.body if isinstance(node, ast.ClassDef)]
    return {part.name for node in classes for part in node.body if isinstance(part, ast.FunctionDef)}


def own_values():
    stored = [node for name, tree in trees() for node in ast.walk(tree) if isinstance(node, ast.Attribute)]
    return {node.attr for node in stored if isinstance(node.ctx, ast.Store)}


def own_refusals():
    tree = ast.parse((PACKAGE / "errors.py").read_text())
    return {node.name for node in tree.body if isinstance(node, ast.ClassDef)}


def is_plain(node, functions):
    """Whether a value at a file's top is made of plain values and of functions that stand above it."""
    if isinstance(node, (ast.List, ast.Tuple)):
        return all(is_plain(part, functions) for part in node.elts)
    if isinstance(node, ast.Dict):
        return all(is_plain(part, functions) for part in node.keys + node.values)
    if isinstance(node, ast.UnaryOp) and isinstance(node.op, ast.USub):
        return isinstance(node.operand, ast.Constant)
    return isinstance(node, ast.Constant) or (isinstance(node, ast.Name) and node.id in functions)


def imports_of(tree):
    return [node for node in tree.body if isinstance(node, ast.ImportFrom)]


class Language(unittest.TestCase):
    def test_signs_and_sizes(self):
        for path in FILES:
            text = path.read_bytes().decode("ascii")
            with self.subTest(file=path.name):
                self.assertRegex(path.name, r"\A[a-z0-9_]+\.py\Z")
                self.assertRegex(text, r"\A[ -~\n]*\Z")
                self.assertLessEqual(len(text.splitlines()), 400)
                self.assertLessEqual(max([len(line) for line in text.splitlines()] + [0]), 120)
                self.assertIsNone(WORDS.search(text))

    def test_functions_are_short_and_plain(self):
        for path in FILES:
            for node in ast.walk(ast.parse(path.read_text())):
                if isinstance(node, ast.FunctionDef):
                    with self.subTest(file=path.name, function=node.name):
                        self.assertLessEqual(node.end_lineno - node.lineno + 1, 40)
                        self.assertEqual(node.decorator_list, [])
                        self.assertIsNone(node.args.vararg)
                        self.assertIsNone(node.args.kwarg)
                        self.assertEqual(node.args.kwonlyargs + node.args.posonlyargs, [])

    def test_nothing_ruled_out_stands_in_a_file(self):
        for path in FILES:
            for node in ast.walk(ast.parse(path.read_text())):
                with self.subTest(file=path.name, line=getattr(node, "lineno", None)):
                    self.assertNotIsInstance(node, RULED_OUT)
                    if isinstance(node, ast.Constant):
                        self.assertNotIsInstance(node.value, (float, bytes, complex))
                    if isinstance(node, (ast.For, ast.While)):
                        self.assertEqual(node.orelse, [])
                    if isinstance(node, ast.Try):
                        self.assertEqual(node.finalbody, [])

    def test_names(self):
        for path in FILES:
            for name in names_in(ast.parse(path.read_text())):
                with self.subTest(file=path.name, name=name):
                    if name not in DUNDERS:
                        self.assertRegex(name, r"\A[A-Za-z][A-Za-z0-9_]*\Z")

    def test_pythons_own_names(self):
        for path in FILES:
            tree = ast.parse(path.read_text())
            for node in ast.walk(tree):
                if isinstance(node, ast.Name) and hasattr(builtins, node.id):
                    with self.subTest(file=path.name, name=node.id):
                        self.assertIn(node.id, OWN_NAMES)
                        self.assertIsInstance(node.ctx, ast.Load)
                if isinstance(node, ast.arg):
                    with self.subTest(file=path.name, name=node.arg):
                        self.assertFalse(hasattr(builtins, node.arg))

    def test_one_plain_target_in_an_assignment(self):
        for name, tree in trees():
            for node in ast.walk(tree):
                if isinstance(node, ast.Assign):
                    with self.subTest(file=name, line=node.lineno):
                        self.assertEqual(len(node.targets), 1)
                        self.assertIsInstance(node.targets[0], (ast.Name, ast.Attribute, ast.Subscript))

    def test_is_stands_beside_none_and_truths_alone(self):
        for name, tree in trees():
            for node in ast.walk(tree):
                if isinstance(node, ast.Compare) and isinstance(node.ops[0], (ast.Is, ast.IsNot)):
                    with self.subTest(file=name, line=node.lineno):
                        self.assertIn(ast.unparse(node.comparators[0]), ("None", "True", "False"))

    def test_no_name_is_a_method_and_a_value(self):
        self.assertEqual(own_methods() & own_values(), set())

    def test_methods_that_are_called(self):
        known = own_methods() | METHODS
        for name, tree in trees():
            for node in ast.walk(tree):
                if isinstance(node, ast.Call) and isinstance(node.func, ast.Attribute):
                    with self.subTest(file=name, line=node.lineno):
                        self.assertIn(node.func.attr, known)

    def test_methods_are_called_where_they_stand(self):
        known = own_methods() | METHODS
        for name, tree in trees():
            nodes = list(ast.walk(tree))
            called = {id(node.func) for node in nodes if isinstance(node, ast.Call)}
            called |= {id(node.value) for node in nodes if isinstance(node, ast.keyword) and node.arg == "key"}
            for node in nodes:
                if isinstance(node, ast.Attribute) and node.attr in known:
                    with self.subTest(file=name, line=node.lineno):
                        self.assertIn(id(node), called)

    def test_no_loop_changes_what_it_walks(self):
        for name, tree in trees():
            for loop in ast.walk(tree):
                if isinstance(loop, ast.For):
                    walked = {ast.unparse(node) for node in ast.walk(loop.iter) if isinstance(node, (ast.Name, ast.Attribute))}
                    for node in [part for row in loop.body for part in ast.walk(row)]:
                        with self.subTest(file=name, line=loop.lineno):
                            if isinstance(node, ast.Attribute) and node.attr in CHANGING:
                                self.assertNotIn(ast.unparse(node.value), walked)
                            if isinstance(node, ast.Subscript) and isinstance(node.ctx, ast.Store):
                                self.assertNotIn(ast.unparse(node.value), walked)

    def test_sets_are_asked_on_the_spot(self):
        for name, tree in trees():
            nodes = list(ast.walk(tree))
            sets = [node for node in nodes if isinstance(node, ast.Call) and ast.unparse(node.func) == "set"]
            spots = [node for node in nodes if isinstance(node, ast.Compare)]
            spots += [node for node in nodes if isinstance(node, ast.Call) and ast.unparse(node.func) in ("len", "sorted")]
            within = {id(child) for spot in spots for child in ast.iter_child_nodes(spot)}
            for node in sets:
                with self.subTest(file=name, line=node.lineno):
                    self.assertIn(id(node), within)

    def test_imports_are_drawn_from_the_file_that_defines_them(self):
        defined = {}
        for name, tree in trees():
            made = {node.name for node in tree.body if isinstance(node, (ast.FunctionDef, ast.ClassDef))}
            kept = {node.targets[0].id for node in tree.body if isinstance(node, ast.Assign)}
            defined["posthouse." + name.removesuffix(".py")] = made | kept
        for name, tree in trees():
            for node in imports_of(tree):
                for alias in node.names:
                    with self.subTest(file=name, name=alias.name):
                        self.assertIn(alias.name, defined[node.module])
                        self.assertIsNone(alias.asname)

    def test_no_parameter_or_local_is_called_like_an_import(self):
        for name, tree in trees():
            drawn = {alias.name for node in imports_of(tree) for alias in node.names}
            for node in ast.walk(tree):
                with self.subTest(file=name, line=getattr(node, "lineno", None)):
                    if isinstance(node, ast.arg):
                        self.assertNotIn(node.arg, drawn)
                    if isinstance(node, ast.Name) and isinstance(node.ctx, ast.Store):
                        self.assertNotIn(node.id, drawn)

    def test_the_top_of_a_file(self):
        for name, tree in trees():
            drawn = []
            given = []
            functions = []
            for place, node in enumerate(tree.body):
                with self.subTest(file=name, line=node.lineno):
                    if isinstance(node, ast.Expr):
                        self.assertEqual((place, type(node.value.value)), (0, str))
                    elif isinstance(node, ast.ImportFrom):
                        self.assertEqual(given + functions, [])
                        drawn.extend(alias.name for alias in node.names)
                    elif isinstance(node, ast.Assign):
                        self.assertTrue(is_plain(node.value, functions))
                        self.check_holds_no_list_itself(node.value)
                        given.append(node.targets[0].id)
                    else:
                        self.assertIsInstance(node, (ast.FunctionDef, ast.ClassDef))
                        functions.append(node.name)
            bound = drawn + given + functions
            self.assertEqual(len(bound), len(set(bound)))

    def check_holds_no_list_itself(self, value):
        within = [node for node in ast.walk(value) if node is not value]
        if isinstance(value, (ast.List, ast.Dict)):
            self.assertFalse([node for node in within if isinstance(node, (ast.List, ast.Dict))])

    def test_classes_are_plain(self):
        for name, tree in trees():
            for node in ast.walk(tree):
                if isinstance(node, ast.ClassDef):
                    with self.subTest(file=name, name=node.name):
                        self.assertIn(node, tree.body)
                        self.assertLessEqual(len(node.bases), 1)
                        self.assertEqual(node.decorator_list + node.keywords, [])
                        for part in node.body:
                            self.assertIsInstance(part, (ast.FunctionDef, ast.Pass))
                        methods = [part.name for part in node.body if isinstance(part, ast.FunctionDef)]
                        self.assertEqual(len(methods), len(set(methods)))

    def test_statements(self):
        for name, tree in trees():
            for function in ast.walk(tree):
                if isinstance(function, ast.FunctionDef):
                    for node in ast.walk(function):
                        with self.subTest(file=name, line=getattr(node, "lineno", None)):
                            if isinstance(node, ast.Expr):
                                self.assertIsInstance(node.value, ast.Call)
                            elif isinstance(node, ast.stmt):
                                self.assertIsInstance(node, STATEMENTS)

    def test_expressions(self):
        for name, tree in trees():
            for node in ast.walk(tree):
                with self.subTest(file=name, line=getattr(node, "lineno", None)):
                    if isinstance(node, ast.expr):
                        self.assertIsInstance(node, EXPRESSIONS)
                    if isinstance(node, ast.ListComp):
                        self.assertEqual(len(node.generators), 1)
                        self.assertLessEqual(len(node.generators[0].ifs), 1)
                    if isinstance(node, ast.FormattedValue):
                        self.assertIsInstance(node.value, ast.Name)
                        self.assertIn(node.conversion, (-1, ord("r")))
                        self.assertIsNone(node.format_spec)
                    if isinstance(node, ast.BinOp) and isinstance(node.op, ast.Pow):
                        self.assertIsInstance(node.right, ast.Constant)
                    if isinstance(node, ast.Constant) and isinstance(node.value, str):
                        self.assertNotIn("%", node.value)

    def test_escapes(self):
        for path in FILES:
            for escape in re.findall(r"\\.", path.read_text()):
                with self.subTest(file=path.name, escape=escape):
                    self.assertIn(escape[1], "nt\\'\"")

    def test_names_that_are_not_used(self):
        for name, tree in trees():
            for used in names_in(tree):
                with self.subTest(file=name, name=used):
                    self.assertNotIn(used, NOT_AS_NAMES)

    def test_no_annotations(self):
        for name, tree in trees():
            for node in ast.walk(tree):
                with self.subTest(file=name, line=getattr(node, "lineno", None)):
                    self.assertNotIsInstance(node, ast.AnnAssign)
                    if isinstance(node, ast.arg):
                        self.assertIsNone(node.annotation)
                    if isinstance(node, ast.FunctionDef):
                        self.assertIsNone(node.returns)

    def test_only_refusals_and_a_few_errors_are_taken(self):
        for name, tree in trees():
            for node in ast.walk(tree):
                with self.subTest(file=name, line=getattr(node, "lineno", None)):
                    if isinstance(node, ast.ExceptHandler):
                        self.assertIn(ast.unparse(node.type), own_refusals() | set(TAKEN))
                    if isinstance(node, ast.Raise):
                        self.assertIn(ast.unparse(node.exc.func), own_refusals())

    def test_keywords_of_pythons_own(self):
        for name, tree in trees():
            for node in ast.walk(tree):
                if isinstance(node, ast.Call) and node.keywords and ast.unparse(node.func) in OWN_NAMES:
                    with self.subTest(file=name, line=node.lineno):
                        for keyword in node.keywords:
                            self.assertIn(keyword.arg, KEYWORDS[ast.unparse(node.func)])

    def test_pythons_own_are_called_and_not_kept(self):
        for name, tree in trees():
            nodes = list(ast.walk(tree))
            spots = {id(node.func) for node in nodes if isinstance(node, ast.Call)}
            for node in nodes:
                if isinstance(node, ast.Call) and ast.unparse(node.func) == "isinstance":
                    spots |= {id(part) for part in ast.walk(node.args[1])}
                if isinstance(node, ast.ClassDef):
                    spots |= {id(base) for base in node.bases}
                if isinstance(node, ast.keyword) and node.arg == "key":
                    spots.add(id(node.value))
            for node in nodes:
                if isinstance(node, ast.Name) and node.id in OWN_NAMES:
                    with self.subTest(file=name, line=node.lineno):
                        self.assertIn(id(node), spots)

    def test_what_is_walked_at_once(self):
        for name, tree in trees():
            nodes = list(ast.walk(tree))
            spots = {id(node.iter) for node in nodes if isinstance(node, (ast.For, ast.comprehension))}
            for node in nodes:
                if isinstance(node, ast.Call) and node.args:
                    if ast.unparse(node.func) in WALKED_IN or ast.unparse(node.func).endswith(".join"):
                        spots.add(id(node.args[0]))
            for node in nodes:
                if isinstance(node, ast.Call) and ast.unparse(node.func).split(".")[-1] in (
                    "zip", "enumerate", "reversed", "range", "items", "keys", "values",
                ):
                    with self.subTest(file=name, line=node.lineno):
                        self.assertIn(id(node), spots)

    def test_what_an_init_gives_back(self):
        for name, tree in trees():
            for function in ast.walk(tree):
                if isinstance(function, ast.FunctionDef) and function.name == "__init__":
                    for node in ast.walk(function):
                        self.assertNotIsInstance(node, ast.Return)


if __name__ == "__main__":
    unittest.main()
