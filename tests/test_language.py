"""The package keeps to the rules of LANGUAGE.md that can be seen from its text: one test for a few rules each."""

import ast
import pathlib
import re
import unittest
import warnings

PACKAGE = pathlib.Path(__file__).resolve().parent.parent / "railhouse"
FILES = sorted(path for path in PACKAGE.rglob("*") if "__pycache__" not in path.parts)
SOURCES = {path.stem: path.read_text(encoding="utf-8") for path in FILES}
TREES = {name: ast.parse(text) for name, text in SOURCES.items()}

BUILTINS = """len range enumerate zip min max sum abs sorted reversed int str bool list tuple dict set isinstance ord repr
any all divmod ValueError KeyError""".split()
METHODS = """append clear copy count endswith extend find get index insert isalnum isalpha isdigit islower isspace isupper
items join keys ljust lower lstrip partition pop remove replace reverse rfind rjust rpartition rsplit rstrip setdefault
split splitlines startswith strip update upper values zfill bit_length isascii add discard""".split()
OPERATORS = ["__eq__", "__contains__", "__iter__", "__add__", "__or__", "__and__"]
DOUBLE = ["__init__"] + OPERATORS
STATEMENTS = (
    ast.Assign, ast.AugAssign, ast.If, ast.While, ast.For, ast.Return, ast.Break, ast.Continue, ast.Pass, ast.Raise,
    ast.Delete, ast.Try, ast.Expr, ast.FunctionDef, ast.ClassDef, ast.ImportFrom,
)
WORDS = """type typing typing_extensions enum Enum IntEnum StrEnum Flag IntFlag Generic Protocol ABC ABCMeta namedtuple
NamedTuple TypedDict TYPE_CHECKING abstractmethod""".split()
NEVER = """register mro elements open input law version_info with_traceback add_note""".split()
NOT_AS_NAMES = """attrgetter breakpoint builtins compile copyright credits delattr dir eval exec exit gc getattr globals
hasattr help id importlib license locals methodcaller os quit setattr super type vars sys next iter map filter hash format
round slice object print property bytes frozenset chr""".split()


def nodes(kind):
    """Yield the file's name and each node of this kind in the package."""
    for name, tree in TREES.items():
        for node in ast.walk(tree):
            if isinstance(node, kind):
                yield name, node


def own_names(tree):
    """Return the names that a file defines."""
    found = []
    for node in tree.body:
        if isinstance(node, (ast.FunctionDef, ast.ClassDef)):
            found.append(node.name)
        if isinstance(node, ast.Assign):
            found.append(node.targets[0].id)
    return found


def imported_names(tree):
    return [alias.name for node in tree.body if isinstance(node, ast.ImportFrom) for alias in node.names]


def local_names(function):
    """Return the parameters and assigned names of a function."""
    found = [node.arg for node in ast.walk(function) if isinstance(node, ast.arg)]
    return found + [node.id for node in ast.walk(function) if isinstance(node, ast.Name) and
                    isinstance(node.ctx, ast.Store)]


def is_docstring(node):
    return isinstance(node, ast.Expr) and isinstance(node.value, ast.Constant) and isinstance(node.value.value, str)


def is_constant(node):
    """Tell whether a number, a string or a tuple of such is assigned."""
    if not isinstance(node, ast.Assign):
        return False
    values = node.value.elts if isinstance(node.value, ast.Tuple) else [node.value]
    return all(isinstance(value, ast.Constant) for value in values)


class FileTest(unittest.TestCase):
    def test_names_and_characters(self):
        for path in FILES:
            self.assertRegex(path.name, r"^([a-z][a-z0-9_]*|__init__)\.py$")
            self.assertEqual(path.parent, PACKAGE)
        for name, text in SOURCES.items():
            self.assertRegex(text, r"^[ -~\n]*$", name)
            self.assertNotRegex(text, r"_wall|_WallAttr")

    def test_sizes(self):
        for name, text in SOURCES.items():
            lines = text.split("\n")
            self.assertLessEqual(len(lines), 399, name)
            self.assertLessEqual(max(map(len, lines)), 120, name)
        for name, node in nodes(ast.FunctionDef):
            self.assertLessEqual(node.end_lineno - node.lineno + 1, 40, (name, node.name))

    def test_no_warnings(self):
        with warnings.catch_warnings():
            warnings.simplefilter("error")
            for name, text in SOURCES.items():
                compile(text, name, "exec")

    def test_module_level(self):
        for name, tree in TREES.items():
            for node in tree.body:
                plain = isinstance(node, (ast.FunctionDef, ast.ClassDef, ast.ImportFrom)) or is_docstring(node)
                self.assertTrue(plain or is_constant(node), (name, node.lineno))
            bound = own_names(tree) + imported_names(tree)
            self.assertEqual(len(bound), len(set(bound)), name)


class ImportTest(unittest.TestCase):
    def test_imports_name_the_file_that_defines(self):
        for name, node in nodes(ast.ImportFrom):
            package, _, module = node.module.partition(".")
            self.assertEqual((package, node.level), ("railhouse", 0))
            for alias in node.names:
                self.assertIsNone(alias.asname)
                self.assertIn(alias.name, own_names(TREES[module]), name)
        self.assertEqual(list(nodes(ast.Import)), [])

    def test_imports_stand_at_the_top(self):
        for name, tree in TREES.items():
            kinds = [isinstance(node, ast.ImportFrom) for node in tree.body if not is_docstring(node)]
            self.assertEqual(kinds, sorted(kinds, reverse=True), name)

    def test_no_circles(self):
        left = {name: {node.module.partition(".")[2] for node in tree.body if isinstance(node, ast.ImportFrom)}
                for name, tree in TREES.items()}
        while left:
            free = [name for name, needs in left.items() if not needs & set(left)]
            self.assertTrue(free, left)
            for name in free:
                del left[name]


class CodeTest(unittest.TestCase):
    def test_statements(self):
        for name, node in nodes(ast.stmt):
            self.assertIsInstance(node, STATEMENTS, (name, node.lineno))
        for name, node in nodes(ast.FunctionDef):
            self.assertIn([ast.unparse(call) for call in node.decorator_list], ([], ["property"]), (name, node.name))
            self.assertIsNone(node.returns, (name, node.name))
        for name, node in nodes(ast.arg):
            self.assertIsNone(node.annotation, (name, node.arg))

    def test_expressions(self):
        banned = (ast.Lambda, ast.Await, ast.Yield, ast.YieldFrom, ast.NamedExpr, ast.JoinedStr, ast.GeneratorExp,
                  ast.Div, ast.MatMult, ast.Set, ast.SetComp)
        allowed = [("ways", "Yield")]
        for name, node in nodes(banned):
            self.assertIn((name, type(node).__name__), allowed, getattr(node, "lineno", None))
        for name, node in nodes(ast.Constant):
            self.assertIsInstance(node.value, (int, str, type(None)), name)
            if isinstance(node.value, str):
                self.assertNotIn(chr(37), node.value, name)

    def test_sets_are_used_on_the_spot(self):
        for name, node in nodes(ast.Call):
            inner = [arg for arg in node.args if isinstance(arg, ast.Call) and getattr(arg.func, "id", "") == "set"]
            if inner:
                self.assertIn(node.func.id, ("sorted", "len"), (name, node.lineno))

    def test_is_stands_with_none_alone(self):
        for name, node in nodes(ast.Compare):
            for sign, side in zip(node.ops, node.comparators):
                if isinstance(sign, (ast.Is, ast.IsNot)):
                    self.assertIsNone(side.value, (name, node.lineno))

    def test_only_errors_of_the_program_are_raised_and_caught(self):
        for name, node in nodes(ast.Raise):
            if node.exc is not None:
                self.assertIn(node.exc.func.id, own_names(TREES["errors"]), (name, node.lineno))
        for name, node in nodes(ast.ExceptHandler):
            self.assertIn(node.type.id, own_names(TREES["errors"]), (name, node.lineno))


class NameTest(unittest.TestCase):
    def test_only_known_names_are_read(self):
        for name, tree in TREES.items():
            known = BUILTINS + own_names(tree) + imported_names(tree) + ["property", "iter"]
            functions = [node for node in ast.walk(tree) if isinstance(node, ast.FunctionDef)]
            for function in functions:
                local = local_names(function)
                for node in ast.walk(function):
                    if isinstance(node, ast.Name) and isinstance(node.ctx, ast.Load):
                        self.assertIn(node.id, known + local, (name, node.lineno))

    def test_locals_have_no_name_of_a_class_or_an_import_or_a_builtin(self):
        for name, tree in TREES.items():
            taken = imported_names(tree) + [node.name for node in tree.body if isinstance(node, ast.ClassDef)]
            for node in ast.walk(tree):
                if isinstance(node, ast.FunctionDef):
                    for word in local_names(node):
                        self.assertNotIn(word, taken + BUILTINS + NOT_AS_NAMES + NEVER, (name, node.name))

    def test_called_methods_are_known(self):
        own = [node.name for _, node in nodes(ast.FunctionDef)]
        for name, node in nodes(ast.Call):
            if isinstance(node.func, ast.Attribute):
                self.assertIn(node.func.attr, own + METHODS, (name, node.lineno))
                self.assertNotIn(node.func.attr, ["sort"], (name, node.lineno))

    def test_no_name_is_a_method_and_an_attribute(self):
        methods = [node.name for _, tree in nodes(ast.ClassDef) for node in tree.body if isinstance(node, ast.FunctionDef)]
        stored = [node.attr for _, node in nodes(ast.Attribute) if isinstance(node.ctx, ast.Store)]
        self.assertEqual(sorted(set(methods) & set(stored)), [])

    def test_double_underscores(self):
        for name, node in nodes(ast.FunctionDef):
            self.assertTrue(node.name in DOUBLE or not node.name.startswith("__"), (name, node.name))
        for name, node in nodes(ast.Attribute):
            self.assertFalse(node.attr.startswith("__"), (name, node.lineno))

    def test_operators_and_properties_only_return(self):
        for name, node in nodes(ast.FunctionDef):
            if node.name not in OPERATORS and not node.decorator_list:
                continue
            *docstrings, last = node.body
            self.assertTrue(all(map(is_docstring, docstrings)) and isinstance(last, ast.Return), (name, node.name))
            for call in ast.walk(last):
                if isinstance(call, ast.Call):
                    classes = [part.name for part in TREES[name].body if isinstance(part, ast.ClassDef)]
                    self.assertIn(call.func.id, ["isinstance", "len", "sum", "min", "max", "iter"] + classes, (name, node.name))
        for name, node in nodes(ast.Name):
            if node.id == "iter":
                self.assertEqual(len(re.findall(r"return iter\(self\._[a-z]+\)\n", SOURCES[name])), 1, name)

    def test_properties_have_names_of_their_own(self):
        methods = [node for _, tree in nodes(ast.ClassDef) for node in tree.body if isinstance(node, ast.FunctionDef)]
        named = {node.name for node in methods if node.decorator_list}
        self.assertEqual(named & {node.name for node in methods if not node.decorator_list}, set())

    def test_words_that_are_not_used(self):
        for name, tree in TREES.items():
            text = ast.unparse(ast.parse(re.sub(r'"""(.|\n)*?"""', '""', SOURCES[name])))
            for word in WORDS + NEVER:
                self.assertNotRegex(text, rf"\b{word}\b", name)


if __name__ == "__main__":
    unittest.main()
