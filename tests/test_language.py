"""The rules of LANGUAGE.md that can be read off the code with little effort."""

import ast
import builtins
import copy
import functools
import re
import unittest
import warnings
from pathlib import Path

ROOT = Path(__file__).resolve().parent.parent
PACKAGE = ROOT / "bellows"

LIBRARY = {
    "heapq": ["heappush", "heappop", "heapify", "heapreplace", "heappushpop"],
    "math": ["gcd", "lcm", "isqrt", "comb", "perm", "factorial"],
    "itertools": ["product", "combinations", "permutations", "chain", "accumulate", "pairwise",
                  "islice", "zip_longest"],
    "collections": ["defaultdict"],
}
CALLED_BUILTINS = """
    len range enumerate zip min max sum abs sorted reversed int str bool list tuple dict set
    isinstance ord repr any all divmod pow map iter next super property staticmethod classmethod
    Exception ValueError TypeError KeyError IndexError LookupError ZeroDivisionError ArithmeticError
    OverflowError RuntimeError NotImplementedError AttributeError StopIteration NotImplemented
""".split()
METHODS = """
    append clear copy count endswith extend find get index insert isalnum isalpha isdigit islower
    isspace isupper items join keys ljust lower lstrip partition pop remove replace reverse rfind
    rjust rpartition rsplit rstrip setdefault split splitlines startswith strip update upper values
    zfill bit_length sort add discard
""".split()
NEVER_NAMES = ["register", "mro", "elements", "open", "input", "law", "version_info",
               "with_traceback", "add_note"]
NEVER_VARIABLES = """
    attrgetter breakpoint builtins compile copyright credits delattr dir eval exec exit gc getattr
    globals hasattr help id importlib license locals methodcaller os quit setattr super type vars sys
""".split()
NEVER_WORDS = """
    type typing typing_extensions enum Enum IntEnum StrEnum Flag IntFlag Generic Protocol ABC ABCMeta
    namedtuple NamedTuple TypedDict TYPE_CHECKING abstractmethod
""".split()
NEVER_ATTRIBUTES = """
    items keys values pop update append clear extend insert remove reverse setdefault sort args encode
    decode hex fromhex format
""".split()
CHANGING_METHODS = ["append", "extend", "insert", "pop", "remove", "clear", "reverse", "setdefault",
                    "update", "sort"]
NEVER_NODES = (ast.Global, ast.AsyncFunctionDef, ast.AsyncFor, ast.AsyncWith, ast.Await, ast.Div,
               ast.MatMult, ast.Import)
# Functions of the interface whose names it also gives to parameters beside them.
ALSO_PARAMETERS = ["outs", "recipe"]
SPECIAL_METHODS = ["__init__", "__eq__", "__repr__", "__str__", "__len__", "__enter__", "__exit__",
                   "__call__", "__iter__"]


def sources():
    return sorted(path for path in PACKAGE.rglob("*.py"))


@functools.cache
def trees():
    return [(path, ast.parse(path.read_text(encoding="ascii"))) for path in sources()]


def functions_of(tree):
    return [node for node in ast.walk(tree) if isinstance(node, ast.FunctionDef)]


def parameters_of(node):
    listed = node.args.posonlyargs + node.args.args + node.args.kwonlyargs
    listed += [one for one in (node.args.vararg, node.args.kwarg) if one is not None]
    return [one.arg for one in listed]


def stored_attributes(tree):
    """The names of the attributes that are assigned somewhere in a file or a class."""
    return [node.attr for node in ast.walk(tree)
            if isinstance(node, ast.Attribute) and isinstance(node.ctx, ast.Store)]


@functools.cache
def all_methods():
    return {node.name for _, tree in trees() for node in functions_of(tree)}


@functools.cache
def all_stored():
    return {name for _, tree in trees() for name in stored_attributes(tree)}


def bound_names(tree):
    """All names that are variables or parameters somewhere in a file."""
    found = []
    for node in ast.walk(tree):
        if isinstance(node, ast.Name) and isinstance(node.ctx, ast.Store):
            found.append(node.id)
        elif isinstance(node, (ast.FunctionDef, ast.Lambda)):
            found += parameters_of(node)
    return found


def defined_names(tree):
    """The names that a file binds at module level, apart from its imports."""
    found = []
    for node in tree.body:
        if isinstance(node, (ast.FunctionDef, ast.ClassDef)):
            found.append(node.name)
        elif isinstance(node, ast.Assign):
            found += [target.id for target in node.targets]
    return found


def imports_of(tree):
    return [node for node in ast.walk(tree) if isinstance(node, (ast.Import, ast.ImportFrom))]


def without_comments_and_docstrings(path, tree):
    tree = copy.deepcopy(tree)
    for node in ast.walk(tree):
        if isinstance(node, (ast.Module, ast.ClassDef, ast.FunctionDef)) and ast.get_docstring(node):
            node.body[0].value = ast.Constant(0)
    return ast.unparse(tree)


def for_each_file(check):
    """A test that makes a check for each file of the package."""
    def test(self):
        for path, tree in trees():
            with self.subTest(file=str(path.relative_to(ROOT))):
                check(self, path, tree)
    return test


class LanguageTest(unittest.TestCase):
    def test_files(self):
        self.assertLessEqual(len(sources()), 100)
        for path in PACKAGE.rglob("*"):
            if "__pycache__" in path.parts:
                continue
            self.assertTrue(path.is_dir() or path.suffix == ".py", path)
            if path.is_dir():
                self.assertTrue((path / "__init__.py").is_file(), path)
                self.assertFalse(path.with_suffix(".py").exists(), path)
            elif path.name != "__init__.py":
                self.assertRegex(path.stem, r"^[a-z][a-z0-9_]*$")
                self.assertFalse(hasattr(builtins, path.stem), path)

    @for_each_file
    def test_sizes_and_characters(self, path, tree):
        lines = path.read_text(encoding="ascii").split("\n")
        self.assertLessEqual(len(lines) - 1, 399)
        for line in lines:
            self.assertLessEqual(len(line), 120)
            self.assertRegex(line, r"^[ -~]*$")
            self.assertNotRegex(line, r"_wall|_WallAttr")
        for node in functions_of(tree):
            self.assertLessEqual(node.end_lineno - node.lineno + 1, 40, node.name)

    @for_each_file
    def test_no_warnings(self, path, tree):
        with warnings.catch_warnings():
            warnings.simplefilter("error")
            compile(path.read_text(encoding="ascii"), str(path), "exec", dont_inherit=True)

    @for_each_file
    def test_imports(self, path, tree):
        bound = [alias.name for node in imports_of(tree) for alias in node.names]
        bound += defined_names(tree)
        self.assertEqual(len(bound), len(set(bound)), "a name is bound twice")
        for node in imports_of(tree):
            self.assertIn(node, tree.body)
            self.assertIsInstance(node, ast.ImportFrom)
            self.assertEqual(node.level, 0)
            names = [alias.name for alias in node.names]
            self.assertEqual([alias.asname for alias in node.names], [None] * len(names))
            if node.module in LIBRARY:
                self.assertLessEqual(set(names), set(LIBRARY[node.module]))
            else:
                file = ROOT.joinpath(*node.module.split(".")).with_suffix(".py")
                defined = defined_names(ast.parse(file.read_text(encoding="ascii")))
                self.assertLessEqual(set(names), set(defined))

    @for_each_file
    def test_imports_are_used(self, path, tree):
        used = [node.id for node in ast.walk(tree) if isinstance(node, ast.Name)]
        for node in imports_of(tree):
            for alias in node.names:
                self.assertIn(alias.name, used)

    def test_no_two_files_import_from_each_other(self):
        reached = {}
        for path, tree in trees():
            name = ".".join(path.relative_to(ROOT).with_suffix("").parts)
            reached[name] = {node.module for node in imports_of(tree)}
        for _ in reached:
            for name in reached:
                reached[name] |= {far for near in reached[name] for far in reached.get(near, ())}
        for name in reached:
            self.assertNotIn(name, reached[name])

    @for_each_file
    def test_module_level(self, path, tree):
        for index, node in enumerate(tree.body):
            if isinstance(node, ast.Expr):
                self.assertEqual(index, 0)
                self.assertIsInstance(node.value.value, str)
            elif isinstance(node, ast.Assign):
                self.assertEqual(len(node.targets), 1)
                ast.literal_eval(node.value)
            else:
                self.assertIsInstance(node, (ast.ImportFrom, ast.FunctionDef, ast.ClassDef))

    @for_each_file
    def test_kinds_of_statements_and_expressions(self, path, tree):
        for node in ast.walk(tree):
            self.assertNotIsInstance(node, NEVER_NODES)
            if isinstance(node, (ast.ClassDef, ast.FunctionDef)):
                self.assertEqual(node.decorator_list, [])
            if isinstance(node, ast.Constant):
                self.check_constant(node.value)
            if isinstance(node, ast.Compare):
                self.check_is(node)
            if isinstance(node, ast.BinOp) and isinstance(node.op, ast.Pow):
                self.assertTrue(0 <= ast.literal_eval(node.right) <= 64)

    def check_constant(self, value):
        self.assertNotIsInstance(value, (float, complex))
        if isinstance(value, str):
            self.assertNotIn("%", value)
            self.assertFalse(value.endswith(("._", ".__")))

    def check_is(self, node):
        for operator, side in zip(node.ops, node.comparators):
            if isinstance(operator, (ast.Is, ast.IsNot)):
                self.assertIsInstance(side, ast.Constant)

    @for_each_file
    def test_names(self, path, tree):
        classes = [node.name for node in ast.walk(tree) if isinstance(node, ast.ClassDef)]
        imported = [alias.name for node in imports_of(tree) for alias in node.names]
        functions = [node.name for node in tree.body if isinstance(node, ast.FunctionDef)]
        for name in bound_names(tree):
            self.assertRegex(name, r"^(_|_?[A-Za-z][A-Za-z0-9_]*)$")
            self.assertNotIn(name, NEVER_NAMES + NEVER_VARIABLES + classes + imported)
            if name not in ALSO_PARAMETERS:
                self.assertNotIn(name, functions, "a variable hides a function")
            self.assertFalse(hasattr(builtins, name), name)
        for name in functions + classes:
            self.assertNotIn(name, NEVER_NAMES + NEVER_VARIABLES)
            self.assertFalse(hasattr(builtins, name), name)

    @for_each_file
    def test_builtins_and_attributes(self, path, tree):
        known = all_methods() | all_stored() | set(METHODS)
        for name in stored_attributes(tree):
            self.assertNotIn(name, NEVER_ATTRIBUTES + NEVER_NAMES)
        for node in ast.walk(tree):
            if isinstance(node, ast.Name) and hasattr(builtins, node.id):
                self.assertIn(node.id, CALLED_BUILTINS)
            if isinstance(node, ast.Attribute):
                self.assertIn(node.attr, known)

    @for_each_file
    def test_methods(self, path, tree):
        for node in ast.walk(tree):
            if isinstance(node, ast.ClassDef):
                self.check_class(node)

    def check_class(self, node):
        methods = [part.name for part in functions_of(node)]
        self.assertEqual(len(methods), len(set(methods)))
        for name in stored_attributes(node):
            self.assertNotIn(name, methods)
        for name in methods:
            self.assertNotIn(name, NEVER_NAMES + NEVER_VARIABLES)
            if name.startswith("__"):
                self.assertIn(name, SPECIAL_METHODS)

    def test_no_name_is_a_method_and_an_attribute(self):
        methods = {part.name for _, tree in trees() for node in ast.walk(tree)
                   if isinstance(node, ast.ClassDef) for part in functions_of(node)}
        stored = {name for _, tree in trees() for name in stored_attributes(tree)}
        # The document asks for errors with an attribute, and a parser with a method of this name.
        self.assertLessEqual(methods & stored, {"at"})

    @for_each_file
    def test_stars_stand_before_names(self, path, tree):
        for node in ast.walk(tree):
            if isinstance(node, ast.Call):
                for one in node.args:
                    if isinstance(one, ast.Starred):
                        self.assertIsInstance(one.value, (ast.Name, ast.Attribute))

    @for_each_file
    def test_handlers_name_errors(self, path, tree):
        for node in ast.walk(tree):
            if isinstance(node, ast.ExceptHandler):
                self.assertIsNotNone(node.type)
                self.assertNotIn(ast.unparse(node.type), ["Exception", "ValueError", "TypeError"])

    @for_each_file
    def test_words(self, path, tree):
        code = without_comments_and_docstrings(path, tree)
        for word in re.findall(r"[A-Za-z_0-9]+", code):
            self.assertNotIn(word, NEVER_WORDS)
        self.assertNotRegex(code, "dataclass|overload|contextmanager|bytearray|memoryview")

    @for_each_file
    def test_no_loop_changes_what_it_iterates_over(self, path, tree):
        for loop in [node for node in ast.walk(tree) if isinstance(node, ast.For)]:
            read = {ast.unparse(node) for node in ast.walk(loop.iter)
                    if isinstance(node, (ast.Name, ast.Attribute))}
            for node in [part for row in loop.body for part in ast.walk(row)]:
                if isinstance(node, ast.Call) and isinstance(node.func, ast.Attribute):
                    if node.func.attr in CHANGING_METHODS:
                        self.assertNotIn(ast.unparse(node.func.value), read)
                if isinstance(node, ast.Subscript) and isinstance(node.ctx, ast.Store):
                    self.assertNotIn(ast.unparse(node.value), read)


if __name__ == "__main__":
    unittest.main()
