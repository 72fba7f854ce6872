"""The package keeps to the small part of Python that LANGUAGE.md tells: what can be seen rule by rule."""

import ast
import builtins
import pathlib
import re
import unittest
import warnings

PACKAGE = pathlib.Path(__file__).resolve().parent.parent / "rootprime"
FILES = sorted(PACKAGE.glob("*.py"))

ERROR_NAMES = {
    "Exception", "ValueError", "TypeError", "KeyError", "IndexError", "LookupError", "ZeroDivisionError",
    "ArithmeticError", "OverflowError", "RuntimeError", "NotImplementedError", "AttributeError", "StopIteration",
}
OWN_NAMES = ERROR_NAMES | {
    "len", "range", "enumerate", "zip", "min", "max", "sum", "abs", "sorted", "reversed", "int", "str", "bool",
    "bytes", "list", "tuple", "dict", "set", "frozenset", "isinstance", "ord", "repr", "any", "all", "divmod",
}
METHODS = set("""append clear copy count endswith extend find get index insert isalnum isalpha isdigit islower isspace
isupper items join keys ljust lower lstrip partition pop remove replace reverse rfind rjust rpartition rsplit rstrip
setdefault split splitlines startswith strip update upper values zfill bit_length title capitalize swapcase casefold
center expandtabs removeprefix removesuffix rindex isascii isdecimal isnumeric istitle isidentifier isprintable
encode decode hex sort add discard""".split())
DUNDERS = {"__init__", "__eq__", "__repr__", "__str__", "__len__"}
WORDS = """type typing typing_extensions enum Enum IntEnum StrEnum Flag IntFlag Generic Protocol ABC ABCMeta
namedtuple NamedTuple TypedDict TYPE_CHECKING abstractmethod""".split()
UNUSED = set("""register mro elements open input version_info with_traceback add_note attrgetter breakpoint builtins
compile copyright credits delattr dir eval exec exit gc getattr globals hasattr help id importlib license locals
methodcaller os quit setattr super type vars sys""".split())
NODES = (
    ast.With, ast.AsyncWith, ast.Global, ast.Nonlocal, ast.Yield, ast.YieldFrom, ast.Await, ast.AsyncFor,
    ast.AsyncFunctionDef, ast.GeneratorExp, ast.NamedExpr, ast.Match, ast.Div, ast.MatMult, ast.Import, ast.AnnAssign,
)
WALKED = {"zip", "enumerate", "reversed", "range"}


def trees():
    for file in FILES:
        text = file.read_text(encoding="ascii")
        with warnings.catch_warnings():
            warnings.simplefilter("error")
            yield file, text, ast.parse(text, str(file))


def bound_names(tree):
    """Every name that the tree gives a meaning, with its node."""
    for node in ast.walk(tree):
        if isinstance(node, ast.Name) and isinstance(node.ctx, ast.Store):
            yield node.id, node
        elif isinstance(node, ast.arg):
            yield node.arg, node
        elif isinstance(node, (ast.FunctionDef, ast.ClassDef)):
            yield node.name, node
        elif isinstance(node, ast.ExceptHandler) and node.name:
            yield node.name, node
        elif isinstance(node, ast.alias):
            yield node.asname or node.name, node


class Language(unittest.TestCase):

    def test_files(self):
        for file in PACKAGE.iterdir():
            if file.name != "__pycache__":
                self.assertRegex(file.name, r"^([a-z][a-z0-9_]*|__init__|__main__)\.py$")
                self.assertNotIn(file.stem, vars(builtins))
        self.assertIn(PACKAGE / "__init__.py", FILES)
        self.assertEqual(len(list(ast.walk(ast.parse((PACKAGE / "__init__.py").read_text())))), 3)

    def test_signs_and_sizes(self):
        for file, text, tree in trees():
            self.assertNotRegex(text, r"[^\n -~]", file)
            rows = text.split("\n")
            self.assertLessEqual(len(rows), 400, file)
            self.assertLessEqual(max(len(row) for row in rows), 120, file)
            for node in ast.walk(tree):
                if isinstance(node, ast.FunctionDef):
                    self.assertLessEqual(node.end_lineno - node.lineno + 1, 40, (file, node.name))

    def test_words(self):
        for file, text, _ in trees():
            for word in WORDS:
                self.assertIsNone(re.search(rf"\b{word}\b", text), (file, word))
            for word in ("dataclass", "overload", "contextmanager"):
                self.assertNotIn(word, text, file)

    def test_top(self):
        for file, _, tree in trees():
            for at, node in enumerate(tree.body):
                docstring = at == 0 and isinstance(node, ast.Expr) and isinstance(node.value, ast.Constant)
                kinds = (ast.ImportFrom, ast.FunctionDef, ast.ClassDef, ast.Assign)
                self.assertTrue(docstring or isinstance(node, kinds), (file, node.lineno))

    def test_imports(self):
        names = {file.stem for file in FILES}
        drawn = {}
        for file, _, tree in trees():
            drawn[file.stem] = set()
            for node in ast.walk(tree):
                if isinstance(node, ast.ImportFrom):
                    self.assertIn(node, tree.body)
                    self.assertEqual(node.level, 0)
                    package, _, module = node.module.partition(".")
                    self.assertEqual(package, "rootprime")
                    self.assertIn(module, names)
                    drawn[file.stem].add(module)
                    self.assert_defined_there(module, [alias.name for alias in node.names])
        self.assert_no_circle(drawn)

    def assert_defined_there(self, module, drawn):
        tree = ast.parse((PACKAGE / f"{module}.py").read_text())
        made = set()
        for node in tree.body:
            if isinstance(node, (ast.FunctionDef, ast.ClassDef)):
                made.add(node.name)
            elif isinstance(node, ast.Assign):
                made.update(target.id for target in node.targets)
        self.assertLessEqual(set(drawn), made, module)

    def assert_no_circle(self, drawn):
        left = dict(drawn)
        while left:
            free = [name for name in left if not drawn[name] & set(left)]
            self.assertTrue(free, left)
            for name in free:
                del left[name]

    def test_nodes(self):
        for file, _, tree in trees():
            for node in ast.walk(tree):
                where = (file.name, getattr(node, "lineno", None))
                self.assertNotIsInstance(node, NODES, where)
                if isinstance(node, ast.Constant):
                    self.assertNotIsInstance(node.value, (float, complex), where)
                    if isinstance(node.value, str):
                        self.assertNotIn("%", node.value, where)
                if isinstance(node, (ast.For, ast.While)):
                    self.assertEqual(node.orelse, [], where)
                if isinstance(node, (ast.FunctionDef, ast.ClassDef)):
                    self.assertEqual(node.decorator_list, [], where)
                if isinstance(node, ast.FormattedValue):
                    self.assertIsNone(node.format_spec, where)
                if isinstance(node, ast.Starred):
                    self.assertIsInstance(node.ctx, ast.Store, where)

    def test_functions_and_classes(self):
        for file, _, tree in trees():
            for node in ast.walk(tree):
                if isinstance(node, ast.FunctionDef):
                    where = (file.name, node.name)
                    args = node.args
                    self.assertFalse(args.posonlyargs or args.vararg or args.kwarg, where)
                    self.assertTrue(node.returns is None and all(arg.annotation is None for arg in args.args), where)
                elif isinstance(node, ast.ClassDef):
                    self.assertLessEqual(len(node.bases), 1, (file.name, node.name))
                    self.assertIn(node, tree.body)
                    for row in node.body:
                        self.assertIsInstance(row, (ast.FunctionDef, ast.Expr), (file.name, node.name))

    def test_names(self):
        for file, _, tree in trees():
            top = set()
            for name, node in bound_names(tree):
                where = (file.name, node.lineno, name)
                if name not in DUNDERS:
                    self.assertRegex(name, r"^[A-Za-z][A-Za-z0-9_]*$", where)
                self.assertNotIn(name, UNUSED, where)
                self.assertNotIn(name, vars(builtins), where)
            for node in tree.body:
                for name in self.names_of_row(node):
                    self.assertNotIn(name, top, (file.name, name))
                    top.add(name)
            self.assert_no_local_like_a_top_name(file, tree, top)

    def names_of_row(self, node):
        if isinstance(node, (ast.FunctionDef, ast.ClassDef)):
            return [node.name]
        if isinstance(node, ast.ImportFrom):
            return [alias.asname or alias.name for alias in node.names]
        return [target.id for target in node.targets] if isinstance(node, ast.Assign) else []

    def assert_no_local_like_a_top_name(self, file, tree, top):
        for node in ast.walk(tree):
            if isinstance(node, ast.FunctionDef):
                for name, within in bound_names(node):
                    if within is not node:
                        self.assertNotIn(name, top, (file.name, node.name, name))

    def test_names_that_are_asked(self):
        for file, _, tree in trees():
            known = {name for name, _ in bound_names(tree)}
            for node in ast.walk(tree):
                if isinstance(node, ast.Name) and isinstance(node.ctx, ast.Load):
                    self.assertIn(node.id, known | OWN_NAMES, (file.name, node.lineno))

    def test_methods_and_values(self):
        own, given = set(), set()
        for _, _, tree in trees():
            for node in ast.walk(tree):
                if isinstance(node, ast.ClassDef):
                    own |= {row.name for row in node.body if isinstance(row, ast.FunctionDef)}
                elif isinstance(node, ast.Attribute) and isinstance(node.ctx, ast.Store):
                    given.add(node.attr)
        self.assertEqual(own & given, set())
        for file, _, tree in trees():
            for node in ast.walk(tree):
                if isinstance(node, ast.Attribute):
                    self.assertIn(node.attr, own | given | METHODS, (file.name, node.lineno))
                    self.assertNotIn(node.attr, UNUSED, (file.name, node.lineno))

    def test_classes_are_not_handed_on(self):
        own = {row.name for _, _, tree in trees() for row in tree.body if isinstance(row, ast.ClassDef)}
        for file, _, tree in trees():
            let = set()
            for node in ast.walk(tree):
                if isinstance(node, ast.Call):
                    let.add(node.func)
                    if isinstance(node.func, ast.Name) and node.func.id == "isinstance":
                        let.add(node.args[1])
                elif isinstance(node, ast.ClassDef):
                    let.update(node.bases)
                elif isinstance(node, ast.ExceptHandler):
                    let.update(node.type.elts if isinstance(node.type, ast.Tuple) else [node.type])
            for node in ast.walk(tree):
                if isinstance(node, ast.Name) and node.id in own:
                    self.assertIn(node, let, (file.name, node.lineno))

    def test_lists_of_the_top_are_only_read(self):
        for file, _, tree in trees():
            kept = {target.id for row in tree.body if isinstance(row, ast.Assign) for target in row.targets
                    if isinstance(row.value, (ast.List, ast.Dict))}
            let = set()
            for node in ast.walk(tree):
                if isinstance(node, ast.Subscript) and isinstance(node.ctx, ast.Load):
                    let.add(node.value)
                elif isinstance(node, ast.Compare):
                    let.update(node.comparators)
            for node in ast.walk(tree):
                if isinstance(node, ast.Name) and isinstance(node.ctx, ast.Load) and node.id in kept:
                    self.assertIn(node, let, (file.name, node.lineno))

    def test_operators(self):
        for file, _, tree in trees():
            for node in ast.walk(tree):
                where = (file.name, getattr(node, "lineno", None))
                if isinstance(node, (ast.BinOp, ast.AugAssign)) and isinstance(node.op, ast.Pow):
                    self.assertIsInstance(node, ast.BinOp, where)
                    self.assertIsInstance(node.right, ast.Constant, where)
                    self.assertIn(node.right.value, range(65), where)
                if isinstance(node, ast.Compare):
                    for op, side in zip(node.ops, node.comparators):
                        if isinstance(op, (ast.Is, ast.IsNot)):
                            self.assertIsInstance(side, ast.Constant, where)

    def test_walked_at_once(self):
        for file, _, tree in trees():
            for node in ast.walk(tree):
                if isinstance(node, (ast.Assign, ast.Return)) and isinstance(node.value, ast.Call):
                    called = node.value.func
                    name = called.id if isinstance(called, ast.Name) else called.attr
                    self.assertNotIn(name, WALKED | {"items", "keys", "values", "set"}, (file.name, node.lineno))

    def test_errors_are_raised_by_name(self):
        for file, _, tree in trees():
            for node in ast.walk(tree):
                if isinstance(node, ast.Raise) and node.exc is not None:
                    self.assertIsInstance(node.exc, ast.Call, (file.name, node.lineno))
                    self.assertIsInstance(node.exc.func, ast.Name, (file.name, node.lineno))
                if isinstance(node, ast.ExceptHandler):
                    self.assertIsNotNone(node.type, (file.name, node.lineno))


if __name__ == "__main__":
    unittest.main()
