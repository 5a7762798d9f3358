"""The files of the package keep to LANGUAGE.md, as far as a look at their trees can tell."""

import ast
import builtins
import pathlib
import re
import unittest

FOLDER = pathlib.Path(__file__).resolve().parent.parent / "undotrees"
FILES = {path.stem: path.read_text() for path in sorted(FOLDER.glob("*.py"))}
TREES = {name: ast.parse(text) for name, text in FILES.items()}

ERRORS = """Exception ValueError TypeError KeyError IndexError LookupError ZeroDivisionError ArithmeticError OverflowError
    RuntimeError NotImplementedError""".split()
BUILTINS = """len range enumerate zip min max sum abs sorted reversed int str bool bytes list tuple dict set frozenset
    isinstance ord repr any all divmod NotImplemented""".split() + ERRORS
METHODS = """append clear copy count endswith extend find get index insert isalnum isalpha isdigit islower isspace isupper
    items join keys ljust lower lstrip partition pop remove replace reverse rfind rjust rpartition rsplit rstrip
    setdefault split splitlines startswith strip update upper values zfill bit_length title capitalize swapcase
    casefold center expandtabs removeprefix removesuffix rindex isascii isdecimal isnumeric istitle isidentifier
    isprintable translate sort""".split()
DOUBLE = "__init__ __eq__ __repr__ __str__ __len__ __bool__".split()
ATTRIBUTES_BARRED = """items keys values pop update append clear extend insert remove reverse setdefault sort args encode
    decode hex fromhex format format_map mro""".split()
NAMES_BARRED = """register mro elements open input version_info with_traceback add_note attrgetter breakpoint builtins
    compile copyright credits delattr dir eval exec exit gc getattr globals hasattr help id importlib license locals
    methodcaller os quit setattr super type vars sys""".split()
WORDS_BARRED = re.compile(
    r"\b(type|typing|typing_extensions|enum|Enum|IntEnum|StrEnum|Flag|IntFlag|Generic|Protocol|ABC|ABCMeta|namedtuple"
    r"|NamedTuple|TypedDict|TYPE_CHECKING|abstractmethod)\b|dataclass|overload|contextmanager")
STATEMENTS = (ast.Module, ast.FunctionDef, ast.ClassDef, ast.ImportFrom, ast.Assign, ast.AugAssign, ast.If, ast.While,
              ast.For, ast.Return, ast.Break, ast.Continue, ast.Pass, ast.Raise, ast.Assert, ast.Delete, ast.Expr, ast.Try)
WANT_LISTS = ("any", "all", "min", "max", "sum", "sorted")


def nodes(kind):
    return [(name, node) for name, tree in TREES.items() for node in ast.walk(tree) if isinstance(node, kind)]


def classes():
    return [node for name, node in nodes(ast.ClassDef)]


def own_methods():
    return {row.name for node in classes() for row in node.body if isinstance(row, ast.FunctionDef)}


def bound_names():
    """All names that files bind: variables, parameters, functions, classes and imports."""
    found = [node.id for name, node in nodes(ast.Name) if isinstance(node.ctx, ast.Store)]
    found += [node.arg for name, node in nodes(ast.arg)]
    found += [node.name for name, node in nodes((ast.FunctionDef, ast.ClassDef))]
    return found + [alias.asname or alias.name for name, node in nodes(ast.ImportFrom) for alias in node.names]


def bound_at_the_top(tree):
    found = []
    for row in tree.body:
        if isinstance(row, (ast.FunctionDef, ast.ClassDef)):
            found.append(row.name)
        elif isinstance(row, ast.ImportFrom):
            found += [alias.asname or alias.name for alias in row.names]
        elif isinstance(row, ast.Assign):
            found += [target.id for target in row.targets]
    return found


class Files(unittest.TestCase):

    def test_there_is_nothing_but_files_of_plain_names(self):
        for path in FOLDER.iterdir():
            if path.name != "__pycache__":
                self.assertRegex(path.name, r"^([a-z][a-z0-9_]*|__init__)\.py$")
        self.assertIn("__init__", FILES)

    def test_signs_and_sizes(self):
        for name, text in FILES.items():
            self.assertRegex(text, r"\A[ -~\n]*\Z", name)
            self.assertLessEqual(len(text.splitlines()), 400, name)
            for row in text.splitlines():
                self.assertLessEqual(len(row), 120, name)
        for name, node in nodes(ast.FunctionDef):
            self.assertLessEqual(node.end_lineno - node.lineno + 1, 40, (name, node.name))

    def test_words_that_do_not_occur(self):
        for name, text in FILES.items():
            self.assertIsNone(WORDS_BARRED.search(text), name)

    def test_imports(self):
        for name, tree in TREES.items():
            for row in ast.walk(tree):
                self.assertNotIsInstance(row, ast.Import, name)
                if isinstance(row, ast.ImportFrom):
                    self.assertIn(row, tree.body)
                    self.assertEqual(row.level, 0)
                    package, module = row.module.split(".")
                    self.assertEqual(package, "undotrees")
                    for alias in row.names:
                        self.assertIn(alias.name, bound_at_the_top(TREES[module]))
                        own = [other.names for other in TREES[module].body if isinstance(other, ast.ImportFrom)]
                        self.assertNotIn(alias.name, [each.name for names in own for each in names])

    def test_no_ring_of_imports(self):
        above = {name: {row.module.split(".")[1] for row in tree.body if isinstance(row, ast.ImportFrom)}
                 for name, tree in TREES.items()}
        while above:
            free = [name for name in above if not above[name] & set(above)]
            self.assertTrue(free, above)
            for name in free:
                del above[name]


class Names(unittest.TestCase):

    def test_plain_names(self):
        for name in bound_names():
            if name not in DOUBLE:
                self.assertRegex(name, r"^[A-Za-z][A-Za-z0-9_]*$")
            self.assertNotIn(name, NAMES_BARRED)

    def test_names_of_builtins_mean_the_builtins(self):
        methods = own_methods()
        for name in bound_names():
            if name not in methods:
                self.assertFalse(hasattr(builtins, name), name)

    def test_only_these_builtins(self):
        own = set(bound_names())
        for name, node in nodes(ast.Name):
            if node.id not in own:
                self.assertIn(node.id, BUILTINS, name)

    def test_bound_once_at_the_top(self):
        for name, tree in TREES.items():
            found = bound_at_the_top(tree)
            self.assertEqual(len(found), len(set(found)), name)

    def test_no_variable_is_called_like_a_class_or_an_import(self):
        for name, tree in TREES.items():
            barred = {row.name for row in tree.body if isinstance(row, ast.ClassDef)}
            for row in tree.body:
                if isinstance(row, ast.ImportFrom):
                    barred |= {alias.asname or alias.name for alias in row.names}
            for node in ast.walk(tree):
                if isinstance(node, ast.arg):
                    self.assertNotIn(node.arg, barred, name)
                if isinstance(node, ast.Name) and isinstance(node.ctx, ast.Store):
                    self.assertNotIn(node.id, barred, name)

    def test_methods_and_attributes(self):
        methods = own_methods()
        stored = {node.attr for name, node in nodes(ast.Attribute) if isinstance(node.ctx, ast.Store)}
        self.assertEqual(methods & stored, set())
        self.assertEqual(stored & set(ATTRIBUTES_BARRED), set())
        called = [node.func for name, node in nodes(ast.Call)]
        for name, node in nodes(ast.Attribute):
            if node in called:
                self.assertIn(node.attr, methods | set(METHODS), name)
            elif isinstance(node.ctx, ast.Load):
                self.assertIn(node.attr, stored | set(DOUBLE), name)


class Rows(unittest.TestCase):

    def test_only_these_statements(self):
        for name, node in nodes(ast.stmt):
            self.assertIsInstance(node, STATEMENTS, (name, node.lineno))

    def test_the_top_of_a_file(self):
        for name, tree in TREES.items():
            self.assertIsNotNone(ast.get_docstring(tree), name)
            for row in tree.body[1:]:
                self.assertIsInstance(row, (ast.ImportFrom, ast.Assign, ast.FunctionDef, ast.ClassDef), name)

    def test_no_decorators_and_no_double_underscores_but_these(self):
        for name, node in nodes((ast.FunctionDef, ast.ClassDef)):
            self.assertEqual(node.decorator_list, [], name)
            if node.name.startswith("_"):
                self.assertIn(node.name, DOUBLE)

    def test_is_with_none_true_and_false_only(self):
        for name, node in nodes(ast.Compare):
            for sign, other in zip(node.ops, node.comparators):
                if isinstance(sign, (ast.Is, ast.IsNot)):
                    self.assertIsInstance(other, ast.Constant, (name, node.lineno))
                    self.assertIn(repr(other.value), ("None", "True", "False"))

    def test_numbers_and_strings(self):
        for name, node in nodes(ast.Constant):
            self.assertNotIsInstance(node.value, (float, complex), name)
            if isinstance(node.value, str):
                self.assertNotIn("%", node.value, name)
        for name, node in nodes(ast.BinOp):
            self.assertNotIsInstance(node.op, (ast.Div, ast.MatMult), (name, node.lineno))
            if isinstance(node.op, ast.Pow):
                self.assertIsInstance(node.right, ast.Constant, (name, node.lineno))

    def test_no_generator_expression_where_a_list_is_due(self):
        for name, node in nodes(ast.Call):
            if isinstance(node.func, ast.Name) and node.func.id in WANT_LISTS:
                for given in node.args:
                    self.assertNotIsInstance(given, ast.GeneratorExp, (name, node.lineno))

    def test_no_sets_are_added_to(self):
        # World has a method add, so a stored set can have none.
        self.assertEqual([name for name, node in nodes((ast.Set, ast.SetComp))], [])

    def test_errors_are_raised_on_the_spot(self):
        own = {row.name for row in TREES["errors"].body if isinstance(row, ast.ClassDef)}
        for name, node in nodes(ast.Raise):
            self.assertIsInstance(node.exc, ast.Call, (name, node.lineno))
            self.assertIn(node.exc.func.id, own, (name, node.lineno))

    def test_only_own_errors_are_caught(self):
        own = {row.name for row in TREES["errors"].body if isinstance(row, ast.ClassDef)}
        for name, node in nodes(ast.ExceptHandler):
            for each in node.type.elts if isinstance(node.type, ast.Tuple) else [node.type]:
                self.assertIn(each.id, own, (name, node.lineno))

    def test_sorted_instead_of_sort(self):
        # Classes have __eq__ and __len__, so no list is sorted where it stands.
        self.assertEqual([name for name, node in nodes(ast.Attribute) if node.attr == "sort"], [])


if __name__ == "__main__":
    unittest.main()
