"""The rules of the language subset that can be read off the files of the package one by one."""

import ast
import builtins
import pathlib
import re
import unittest

FOLDER = pathlib.Path(__file__).resolve().parent.parent / "dialroad"

BUILTINS = set("""
len range enumerate zip min max sum abs sorted reversed int str bool bytes list tuple dict set frozenset isinstance
ord repr any all divmod iter next super property staticmethod classmethod
Exception ValueError TypeError KeyError IndexError LookupError ZeroDivisionError ArithmeticError OverflowError
RuntimeError NotImplementedError AttributeError StopIteration NotImplemented
""".split())

METHODS = set("""
append clear copy count endswith extend find get index insert isalnum isalpha isdigit islower isspace isupper items
join keys ljust lower lstrip partition pop remove replace reverse rfind rjust rpartition rsplit rstrip setdefault
split splitlines startswith strip update upper values zfill bit_length title capitalize swapcase casefold center
expandtabs removeprefix removesuffix rindex isascii isdecimal isnumeric istitle isidentifier isprintable translate
sort add discard
""".split())

BARRED_NAMES = set("""
register mro elements open input law version_info with_traceback add_note attrgetter breakpoint builtins compile
copyright credits delattr dir eval exec exit gc getattr globals hasattr help id importlib license locals methodcaller
os quit setattr type vars sys
""".split())

BARRED_WORDS = re.compile(
    r"\b(type|typing|typing_extensions|enum|Enum|IntEnum|StrEnum|Flag|IntFlag|Generic|Protocol|ABC|ABCMeta|namedtuple"
    r"|NamedTuple|TypedDict|TYPE_CHECKING|abstractmethod)\b|dataclass|overload|contextmanager")

SPECIAL = re.compile(r"__[a-z]+__")
DEFINITIONS = (ast.FunctionDef, ast.ClassDef)


def texts():
    return {path.stem: path.read_text(encoding="utf-8") for path in sorted(FOLDER.glob("*.py"))}


def trees():
    return {name: ast.parse(text) for name, text in texts().items()}


def nodes(kinds):
    """Each node of these kinds with the name of its file and its line."""
    for name, tree in trees().items():
        for node in ast.walk(tree):
            if isinstance(node, kinds):
                yield f"{name}.py:{getattr(node, 'lineno', 0)}", node


def defined(tree):
    """The names that a file binds at module level by itself."""
    found = [node.name for node in tree.body if isinstance(node, DEFINITIONS)]
    for node in tree.body:
        if isinstance(node, ast.Assign):
            found.extend(target.id for target in node.targets)
    return found


def bound_names():
    """Each name that the package gives to a function, a class, a parameter or a variable."""
    for where, node in nodes((ast.FunctionDef, ast.ClassDef, ast.arg, ast.Name)):
        if isinstance(node, ast.arg):
            yield where, node.arg
        elif isinstance(node, ast.Name):
            if not isinstance(node.ctx, ast.Load):
                yield where, node.id
        else:
            yield where, node.name


class FilesTest(unittest.TestCase):
    def test_the_folder_contains_python_files_with_plain_names(self):
        names = [path.name for path in FOLDER.iterdir() if path.name != "__pycache__"]
        self.assertIn("__init__.py", names)
        for name in names:
            self.assertRegex(name, r"^([a-z][a-z0-9_]*|__init__|__main__)\.py$")
            self.assertNotRegex(name, r"^(test.*|law_.*|site|conftest|sitecustomize|usercustomize)\.py$")
            self.assertNotIn(name[:-3], vars(builtins))

    def test_characters_and_sizes(self):
        for name, text in texts().items():
            self.assertRegex(text, r"^[ -~\n]*$", name)
            rows = text.split("\n")
            self.assertLessEqual(len(rows), 399, name)
            self.assertLessEqual(max(len(row) for row in rows), 120, name)
            self.assertIsNone(BARRED_WORDS.search(text), name)

    def test_functions_have_at_most_40_lines(self):
        for where, node in nodes(ast.FunctionDef):
            self.assertLessEqual(node.end_lineno - node.lineno + 1, 40, where)


class ModulesTest(unittest.TestCase):
    def test_module_level(self):
        for name, tree in trees().items():
            kinds = (ast.ImportFrom, ast.FunctionDef, ast.ClassDef, ast.Assign)
            for at, node in enumerate(tree.body):
                docstring = at == 0 and isinstance(node, ast.Expr) and isinstance(node.value, ast.Constant)
                self.assertTrue(docstring or isinstance(node, kinds), f"{name}.py:{node.lineno}")

    def test_each_name_is_bound_once(self):
        for name, tree in trees().items():
            imported = [alias.asname or alias.name for node in tree.body if isinstance(node, ast.ImportFrom)
                        for alias in node.names]
            names = imported + defined(tree)
            self.assertEqual(sorted(names), sorted(set(names)), name)

    def test_imports_name_the_file_that_defines_the_name(self):
        parsed = trees()
        for where, node in nodes((ast.Import, ast.ImportFrom)):
            self.assertIsInstance(node, ast.ImportFrom, where)
            self.assertEqual(node.col_offset, 0, where)
            self.assertRegex(node.module or "", r"^dialroad\.[a-z][a-z0-9_]*$", where)
            self.assertEqual(node.level, 0, where)
            for alias in node.names:
                self.assertIn(alias.name, defined(parsed[node.module.split(".")[1]]), where)

    def test_no_two_files_import_from_each_other(self):
        needs = {name: {node.module.split(".")[1] for node in tree.body if isinstance(node, ast.ImportFrom)}
                 for name, tree in trees().items()}
        while needs:
            free = [name for name in needs if not needs[name] & set(needs)]
            self.assertTrue(free, f"files that import from each other: {sorted(needs)}")
            for name in free:
                del needs[name]


class NamesTest(unittest.TestCase):
    def test_own_names(self):
        for where, name in bound_names():
            if not SPECIAL.fullmatch(name):
                self.assertRegex(name, r"^[A-Za-z][A-Za-z0-9_]*$", where)
                self.assertNotIn(name, vars(builtins), where)
                self.assertNotIn(name, BARRED_NAMES, where)

    def test_builtins(self):
        for where, node in nodes(ast.Name):
            if isinstance(node.ctx, ast.Load) and node.id in vars(builtins):
                self.assertIn(node.id, BUILTINS, where)

    def test_methods(self):
        own = {node.name for _, node in nodes(ast.FunctionDef)}
        for where, node in nodes(ast.Call):
            if isinstance(node.func, ast.Attribute):
                self.assertIn(node.func.attr, METHODS | own, where)


    def test_no_variable_has_the_name_of_a_class_or_an_import_of_its_file(self):
        for name, tree in trees().items():
            taken = {node.name for node in tree.body if isinstance(node, ast.ClassDef)}
            for node in tree.body:
                if isinstance(node, ast.ImportFrom):
                    taken |= {alias.asname or alias.name for alias in node.names}
            for node in ast.walk(tree):
                if isinstance(node, ast.arg):
                    self.assertNotIn(node.arg, taken, f"{name}.py:{node.lineno}")
                if isinstance(node, ast.Name) and not isinstance(node.ctx, ast.Load):
                    self.assertNotIn(node.id, taken, f"{name}.py:{node.lineno}")

    def test_no_name_is_a_method_and_an_attribute(self):
        parts = [part for _, node in nodes(ast.ClassDef) for part in node.body]
        methods = {part.name for part in parts if isinstance(part, ast.FunctionDef)}
        assigned = {node.attr for _, node in nodes(ast.Attribute) if not isinstance(node.ctx, ast.Load)}
        self.assertEqual(methods & assigned, set())
        for where, node in nodes(ast.Attribute):
            self.assertIn(node.attr, assigned | methods | METHODS, where)


class ExpressionsTest(unittest.TestCase):
    def test_sums_and_tests_take_lists(self):
        # Generator expressions must go once a class of the package has an __eq__.
        self.assertEqual([where for where, _ in nodes((ast.GeneratorExp, ast.Yield, ast.YieldFrom))], [])

    def test_ranges_and_the_like_are_iterated_at_once(self):
        for where, node in nodes((ast.Assign, ast.Return)):
            value = node.value
            if isinstance(value, ast.Call) and isinstance(value.func, ast.Name):
                self.assertNotIn(value.func.id, ("range", "zip", "enumerate", "reversed", "set", "iter"), where)
            if isinstance(value, ast.Call) and isinstance(value.func, ast.Attribute):
                self.assertNotIn(value.func.attr, ("items", "keys", "values"), where)

    def test_statements_that_are_not_allowed(self):
        kinds = (ast.Global, ast.AsyncFunctionDef, ast.AsyncFor, ast.AsyncWith, ast.Await, ast.Div, ast.MatMult)
        self.assertEqual([where for where, _ in nodes(kinds)], [])

    def test_strings_and_numbers(self):
        for where, node in nodes(ast.Constant):
            self.assertNotIsInstance(node.value, (float, complex), where)
            if isinstance(node.value, str):
                self.assertNotIn("%", node.value, where)

    def test_is_stands_beside_none_true_and_false(self):
        for where, node in nodes(ast.Compare):
            for operator, right in zip(node.ops, node.comparators):
                if isinstance(operator, (ast.Is, ast.IsNot)):
                    self.assertIsInstance(right, ast.Constant, where)
                    self.assertIn(right.value, (None, True, False), where)

    def test_powers_have_a_literal_exponent(self):
        for where, node in nodes(ast.BinOp):
            if isinstance(node.op, ast.Pow):
                self.assertIsInstance(node.right, ast.Constant, where)
                self.assertIn(node.right.value, range(65), where)

    def test_errors_are_created_where_they_are_raised(self):
        for where, node in nodes(ast.Raise):
            if node.exc is not None:
                self.assertIsInstance(node.exc, ast.Call, where)
                self.assertIsInstance(node.exc.func, ast.Name, where)


if __name__ == "__main__":
    unittest.main()
