"""The form of the package's files: what LANGUAGE.md rules, so far as it can be seen in what is written."""

import ast
import builtins
import pathlib
import re
import unittest

FOLDER = pathlib.Path(__file__).resolve().parent.parent / "foreverrows"
OWN_NAMES = set(
    "len range enumerate zip min max sum abs sorted reversed int str bool bytes list tuple dict set isinstance ord "
    "repr any all divmod Exception ValueError TypeError KeyError IndexError LookupError ZeroDivisionError "
    "ArithmeticError OverflowError RuntimeError NotImplementedError AttributeError StopIteration".split()
)
METHODS = set(
    "append clear copy count endswith extend find get index insert isalnum isalpha isdigit islower isspace isupper "
    "items join keys ljust lower lstrip partition pop remove replace reverse rfind rjust rpartition rsplit rstrip "
    "setdefault split splitlines startswith strip update upper values zfill bit_length sort".split()
)
CHANGES = set("append clear extend insert pop remove reverse setdefault update sort".split())
UNUSED_NAMES = set(
    "register mro elements open input version_info with_traceback add_note attrgetter breakpoint builtins compile "
    "copyright credits delattr dir eval exec exit gc getattr globals hasattr help id importlib license locals "
    "methodcaller os quit setattr super type vars sys frozenset chr print format format_map".split()
)
UNUSED_WORDS = set(
    "type typing typing_extensions enum Enum IntEnum StrEnum Flag IntFlag Generic Protocol ABC ABCMeta namedtuple "
    "NamedTuple TypedDict TYPE_CHECKING abstractmethod".split()
)
SPECIAL_METHODS = {"__init__", "__eq__", "__repr__", "__str__", "__len__"}
STATEMENTS = (
    ast.FunctionDef, ast.ClassDef, ast.ImportFrom, ast.Assign, ast.AugAssign, ast.If, ast.While, ast.For, ast.Return,
    ast.Break, ast.Continue, ast.Pass, ast.Raise, ast.Try, ast.Expr, ast.Assert, ast.Delete,
)
FORBIDDEN = (
    ast.GeneratorExp, ast.NamedExpr, ast.Yield, ast.YieldFrom, ast.Await, ast.SetComp, ast.Set, ast.Div, ast.MatMult,
)
WALKED = {"zip", "enumerate", "reversed", "range"}
WALKED_METHODS = {"items", "keys", "values"}
WALKERS = {"list", "tuple", "dict", "sorted", "sum", "any", "all", "enumerate", "zip", "bytes", "min", "max"}


def files():
    return sorted(FOLDER.glob("*.py"))


def nodes(kind):
    """All nodes of a kind, with their file's name."""
    return [(path.name, node) for path in files() for node in ast.walk(tree_of(path)) if isinstance(node, kind)]


def tree_of(path):
    return ast.parse(path.read_text("ascii"))


def called(node):
    """The bare name that is called, or nothing."""
    return node.func.id if isinstance(node, ast.Call) and isinstance(node.func, ast.Name) else ""


def given_names(path):
    """Every name that a file gives: defs, classes, parameters, locals, handlers."""
    for node in ast.walk(tree_of(path)):
        if isinstance(node, (ast.FunctionDef, ast.ClassDef)):
            yield node.name
        if isinstance(node, ast.arg):
            yield node.arg
        if isinstance(node, ast.Name) and isinstance(node.ctx, ast.Store):
            yield node.id
        if isinstance(node, ast.ExceptHandler) and node.name:
            yield node.name


class FilesTest(unittest.TestCase):

    def test_plain_files_alone_lie_in_the_package(self):
        for path in FOLDER.iterdir():
            if path.name != "__pycache__":
                self.assertRegex(path.name, r"^(__init__|__main__|[a-z][a-z0-9_]*)\.py$")
                self.assertNotIn(path.stem, vars(builtins))
        self.assertTrue((FOLDER / "__init__.py").exists())

    def test_signs_and_sizes(self):
        for path in files():
            text = path.read_bytes().decode("ascii")
            self.assertRegex(text, r"\A[ -~\n]*\Z", path.name)
            rows = text.split("\n")
            self.assertLessEqual(len(rows), 400, path.name)
            for row in rows:
                self.assertLessEqual(len(row), 120, path.name)
        for name, node in nodes(ast.FunctionDef):
            self.assertLessEqual(node.end_lineno - node.lineno + 1, 40, (name, node.name))

    def test_words_that_stand_nowhere(self):
        for path in files():
            text = path.read_text("ascii")
            self.assertFalse(UNUSED_WORDS & set(re.findall(r"\w+", text)), path.name)
            for part in ("dataclass", "overload", "contextmanager"):
                self.assertNotIn(part, text)


class TopTest(unittest.TestCase):

    def test_the_top_of_each_file(self):
        for path in files():
            tree = tree_of(path)
            self.assertTrue(ast.get_docstring(tree), path.name)
            bound = []
            for node in tree.body[1:]:
                self.assertIsInstance(node, (ast.ImportFrom, ast.FunctionDef, ast.ClassDef, ast.Assign), path.name)
                if isinstance(node, ast.ImportFrom):
                    bound += [name.name for name in node.names]
                elif isinstance(node, ast.Assign):
                    ast.literal_eval(node.value)
                    bound += [target.id for target in node.targets]
                else:
                    bound.append(node.name)
            self.assertEqual(len(bound), len(set(bound)), path.name)
            imported = [name.name for node in ast.walk(tree) if isinstance(node, ast.ImportFrom) for name in node.names]
            self.assertFalse(set(imported) & set(given_names(path)), path.name)

    def test_imports_are_from_the_very_file(self):
        drawn = {}
        for name, node in nodes((ast.ImportFrom, ast.Import)):
            self.assertIsInstance(node, ast.ImportFrom)
            self.assertEqual(0, node.level)
            self.assertEqual(0, node.col_offset)
            package, module = node.module.split(".")
            self.assertEqual("foreverrows", package)
            defined = [part.name for part in tree_of(FOLDER / (module + ".py")).body if hasattr(part, "name")]
            for part in tree_of(FOLDER / (module + ".py")).body:
                if isinstance(part, ast.Assign):
                    defined += [target.id for target in part.targets]
            for part in node.names:
                self.assertIsNone(part.asname)
                self.assertIn(part.name, defined)
            drawn.setdefault(name[:-3], set()).add(module)
        self.check_no_ring(drawn)

    def check_no_ring(self, drawn):
        left = dict(drawn)
        while left:
            free = [name for name, others in left.items() if not others & set(left)]
            self.assertTrue(free, "files draw from one another: " + ", ".join(left))
            for name in free:
                del left[name]

    def test_each_import_is_used(self):
        for path in files():
            used = {node.id for node in ast.walk(tree_of(path)) if isinstance(node, ast.Name)}
            for node in ast.walk(tree_of(path)):
                if isinstance(node, ast.ImportFrom):
                    self.assertFalse({part.name for part in node.names} - used, path.name)


class StatementsTest(unittest.TestCase):

    def test_statements_and_expressions(self):
        for name, node in nodes(ast.stmt):
            self.assertIsInstance(node, STATEMENTS, (name, node.lineno))
            if isinstance(node, (ast.For, ast.While)):
                self.assertFalse(node.orelse, (name, node.lineno))
            if isinstance(node, ast.Expr) and not isinstance(node.value, ast.Call):
                self.assertIsInstance(node.value, ast.Constant, (name, node.lineno))
                self.assertIsInstance(node.value.value, str, (name, node.lineno))
        for name, node in nodes(FORBIDDEN):
            self.fail((name, node))
        for name, node in nodes(ast.Starred):
            self.assertIsInstance(node.ctx, ast.Store, (name, node.lineno))
        for name, node in nodes(ast.Constant):
            self.assertNotIsInstance(node.value, (float, complex, bytes))
            if isinstance(node.value, str):
                self.assertNotIn("%", node.value)

    def test_functions(self):
        for name, node in nodes((ast.FunctionDef, ast.Lambda)):
            args = node.args
            self.assertFalse(args.vararg or args.kwarg or args.posonlyargs, name)
            if isinstance(node, ast.FunctionDef):
                self.assertFalse(node.decorator_list or node.returns, node.name)
            self.assertFalse([arg for arg in args.args if arg.annotation], name)

    def test_is_stands_beside_none_and_truths(self):
        for name, node in nodes(ast.Compare):
            for sign, right in zip(node.ops, node.comparators):
                if isinstance(sign, (ast.Is, ast.IsNot)):
                    self.assertIsInstance(right, ast.Constant, (name, node.lineno))
                    self.assertIn(right.value, (None, True, False))

    def test_powers_are_written(self):
        for name, node in nodes(ast.BinOp):
            if isinstance(node.op, ast.Pow):
                self.assertIsInstance(node.right, ast.Constant, (name, node.lineno))

    def test_errors_are_made_on_the_spot(self):
        for name, node in nodes(ast.Raise):
            self.assertTrue(called(node.exc), (name, node.lineno))


class NamesTest(unittest.TestCase):

    def test_names_that_are_given(self):
        for path in files():
            for name in given_names(path):
                if name not in SPECIAL_METHODS:
                    self.assertRegex(name, r"^[A-Za-z][A-Za-z0-9_]*$", path.name)
                    self.assertNotIn(name, vars(builtins), path.name)
                    self.assertNotIn(name, UNUSED_NAMES, path.name)

    def test_pythons_own_names_that_are_used(self):
        for name, node in nodes(ast.Name):
            if node.id in vars(builtins):
                self.assertIn(node.id, OWN_NAMES, (name, node.lineno))
            self.assertNotIn(node.id, UNUSED_NAMES, (name, node.lineno))

    def test_methods_that_are_called(self):
        own = {part.name for name, node in nodes(ast.ClassDef) for part in node.body if hasattr(part, "name")}
        for name, node in nodes(ast.Call):
            if isinstance(node.func, ast.Attribute):
                self.assertIn(node.func.attr, METHODS | own, (name, node.lineno))


class ClassesTest(unittest.TestCase):

    def test_methods_alone_stand_in_a_class(self):
        for name, node in nodes(ast.ClassDef):
            self.assertEqual(0, node.col_offset, name)
            self.assertLessEqual(len(node.bases), 1, name)
            self.assertFalse(node.decorator_list or node.keywords, name)
            self.assertTrue(ast.get_docstring(node), name)
            methods = node.body[1:]
            for part in methods:
                self.assertIsInstance(part, ast.FunctionDef, name)
                self.assertEqual("self", part.args.args[0].arg, name)
            self.assertEqual(len(methods), len({part.name for part in methods}), name)

    def test_values_are_given_through_self_and_are_no_methods(self):
        methods = {part.name for name, node in nodes(ast.ClassDef) for part in node.body if hasattr(part, "name")}
        given = set()
        for name, node in nodes(ast.Attribute):
            if isinstance(node.ctx, ast.Store):
                self.assertIsInstance(node.value, ast.Name, (name, node.lineno))
                self.assertEqual("self", node.value.id, (name, node.lineno))
                given.add(node.attr)
        self.assertFalse(given & (methods | METHODS))
        for path in files():
            tree = tree_of(path)
            calls = {id(node.func) for node in ast.walk(tree) if isinstance(node, ast.Call)}
            for node in ast.walk(tree):
                if isinstance(node, ast.Attribute) and id(node) not in calls:
                    self.assertIn(node.attr, given, (path.name, node.lineno))


class WalksTest(unittest.TestCase):

    def test_walked_on_the_spot(self):
        for path in files():
            tree = tree_of(path)
            walked = set()
            for node in ast.walk(tree):
                if isinstance(node, (ast.For, ast.comprehension)):
                    walked.add(id(node.iter))
                if called(node) in WALKERS and node.args:
                    walked.add(id(node.args[0]))
                if called(node) == "reversed" and called(node.args[0]) == "range":
                    walked.add(id(node.args[0]))
            for node in ast.walk(tree):
                method = isinstance(node, ast.Call) and isinstance(node.func, ast.Attribute) and node.func.attr
                if called(node) in WALKED or method in WALKED_METHODS:
                    self.assertIn(id(node), walked, (path.name, node.lineno))

    def test_what_is_walked_is_not_changed(self):
        for name, loop in nodes(ast.For):
            walked = {node.id for node in ast.walk(loop.iter) if isinstance(node, ast.Name)}
            if called(loop.iter) == "range" or called(loop.iter.args[0] if called(loop.iter) else None) == "range":
                continue
            for node in ast.walk(loop):
                changed = None
                if isinstance(node, ast.Call) and isinstance(node.func, ast.Attribute) and node.func.attr in CHANGES:
                    changed = node.func.value
                if isinstance(node, ast.Subscript) and isinstance(node.ctx, (ast.Store, ast.Del)):
                    changed = node.value
                if isinstance(changed, ast.Name):
                    self.assertNotIn(changed.id, walked, (name, node.lineno))

    def test_sets_are_sorted_or_counted_on_the_spot(self):
        for path in files():
            tree = tree_of(path)
            plain = {id(node.args[0]) for node in ast.walk(tree) if called(node) in ("sorted", "len")}
            for node in ast.walk(tree):
                if called(node) == "set":
                    self.assertIn(id(node), plain, (path.name, node.lineno))


if __name__ == "__main__":
    unittest.main()
