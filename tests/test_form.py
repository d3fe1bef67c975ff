"""The rules of LANGUAGE.md that can be seen in a file without running it, and the interface as it is written."""

import ast
import builtins
import importlib
import inspect
import os
import re
import unittest

PACKAGE = "solvedbothsides"
FOLDER = os.path.join(os.path.dirname(os.path.dirname(os.path.abspath(__file__))), PACKAGE)
LIBRARY = {
    "heapq": {"heappush", "heappop", "heapify", "heapreplace", "heappushpop"},
    "math": {"gcd", "lcm", "isqrt", "comb", "perm", "factorial"},
    "itertools": {
        "product", "combinations", "permutations", "chain", "accumulate", "pairwise", "islice", "zip_longest",
    },
    "collections": {"defaultdict"},
}
BUILTINS = set(
    "len range enumerate zip min max sum abs sorted reversed int str bool list tuple dict set frozenset isinstance ord "
    "repr any all divmod pow getattr hasattr setattr map iter next super property staticmethod classmethod object "
    "Exception ValueError TypeError KeyError IndexError LookupError ZeroDivisionError ArithmeticError OverflowError "
    "RuntimeError NotImplementedError AttributeError StopIteration NotImplemented bytes".split()
)
BARRED = re.compile(
    r"\b(type|typing|typing_extensions|enum|Enum|IntEnum|StrEnum|Flag|IntFlag|Generic|Protocol|ABC|ABCMeta|namedtuple|"
    r"NamedTuple|TypedDict|TYPE_CHECKING|abstractmethod)\b|dataclass|overload|contextmanager|_wall|\bregister\b|\bmro\b|"
    r"\belements\b|\bopen\b|\binput\b|\blaw\b"
)
# What the interface lists for each file that has landed, with the names of the arguments.
INTERFACE = {
    "formulas": {
        "size": ["formula"],
        "formula_error": ["names", "value"],
        "solved": ["formula", "name", "out"],
    },
    "errors": {
        "BadFacts": ["number", "word"], "BadFormula": ["word"], "BadSize": ["size"], "BadText": ["line", "number"],
        "Full": [], "NoTable": ["pair", "numbers"], "NotOnce": ["name"], "NothingToUndo": [], "TableError": [],
        "Taken": ["name"], "TooMany": ["limit"], "TornGivens": ["numbers"], "UnlikeNames": ["one", "other"],
        "NoClaim": ["number"], "NoEntry": ["number"], "NoPair": ["number"],
    },
}


def files():
    return sorted(name for name in os.listdir(FOLDER) if name != "__pycache__")


def text_of(name):
    with open(os.path.join(FOLDER, name), encoding="utf-8") as file:
        return file.read()


def docstrings(tree):
    return [
        node.body[0].value for node in ast.walk(tree)
        if isinstance(node, (ast.Module, ast.ClassDef, ast.FunctionDef)) and ast.get_docstring(node) is not None
    ]


def bound_names(tree):
    """Return the names that a file binds anywhere but as methods: imports, functions, classes, arguments, targets."""
    found = set()
    methods = {id(part) for node in ast.walk(tree) if isinstance(node, ast.ClassDef) for part in node.body}
    for node in ast.walk(tree):
        if isinstance(node, (ast.FunctionDef, ast.ClassDef)):
            if id(node) not in methods:
                found.add(node.name)
        elif isinstance(node, ast.alias):
            found.add(node.asname or node.name)
        elif isinstance(node, ast.arg):
            found.add(node.arg)
        elif isinstance(node, ast.Name) and isinstance(node.ctx, ast.Store):
            found.add(node.id)
        elif isinstance(node, (ast.ExceptHandler, ast.MatchAs, ast.MatchStar)) and node.name:
            found.add(node.name)
    return found


class Files(unittest.TestCase):
    def each(self):
        return [(name, text_of(name), ast.parse(text_of(name))) for name in files()]

    def test_names_of_files(self):
        self.assertIn("__init__.py", files())
        for name in files():
            self.assertRegex(name, r"\A([a-z][a-z0-9_]*|__init__|__main__)\.py\Z")

    def test_characters(self):
        for name, text, _ in self.each():
            self.assertRegex(text, r"\A[ -~\n]*\Z", name)

    def test_sizes(self):
        for name, text, tree in self.each():
            self.assertLessEqual(len(text.splitlines()), 399, name)
            self.assertLessEqual(max(map(len, text.splitlines())), 120, name)
            for node in ast.walk(tree):
                if isinstance(node, ast.FunctionDef):
                    self.assertLessEqual(node.end_lineno - node.lineno + 1, 40, (name, node.name))

    def test_module_level(self):
        allowed = (ast.ImportFrom, ast.FunctionDef, ast.ClassDef, ast.Assign)
        for name, _, tree in self.each():
            for node in tree.body[1:] if name != "__main__.py" else []:
                self.assertIsInstance(node, allowed, name)

    def test_imports(self):
        for name, _, tree in self.each():
            for node in ast.walk(tree):
                self.assertNotIsInstance(node, ast.Import, name)
                if isinstance(node, ast.ImportFrom):
                    self.check_import(node)

    def check_import(self, node):
        self.assertEqual(node.level, 0)
        if node.module in LIBRARY:
            self.assertLessEqual({alias.name for alias in node.names}, LIBRARY[node.module])
            return
        package, _, module = node.module.partition(".")
        self.assertEqual(package, PACKAGE)
        # The file itself has to bind the name, and not to import it in its turn.
        defined = {part.name for part in ast.parse(text_of(module + ".py")).body if hasattr(part, "name")}
        for part in ast.parse(text_of(module + ".py")).body:
            if isinstance(part, ast.Assign):
                defined.update(target.id for target in part.targets)
        for alias in node.names:
            self.assertIn(alias.name, defined)

    def test_values_and_statements(self):
        barred = (ast.Global, ast.AsyncFunctionDef, ast.AsyncFor, ast.AsyncWith, ast.Await, ast.Div)
        for name, _, tree in self.each():
            told = docstrings(tree)
            for node in ast.walk(tree):
                self.assertNotIsInstance(node, barred, name)
                if isinstance(node, ast.Constant) and node not in told:
                    self.assertNotIsInstance(node.value, (float, complex), name)
                    self.assertNotIn("%", node.value if isinstance(node.value, str) else "", name)

    def test_builtins(self):
        for name, _, tree in self.each():
            bound = bound_names(tree)
            self.assertEqual(bound & set(dir(builtins)), set(), name)
            for node in ast.walk(tree):
                if isinstance(node, ast.Name) and node.id not in bound:
                    self.assertIn(node.id, BUILTINS, name)

    def test_barred_words(self):
        for name, text, tree in self.each():
            plain = "\n".join(re.sub(r"#.*", "", line) for line in text.split("\n"))
            for node in docstrings(tree):
                plain = plain.replace(node.value, "")
            self.assertIsNone(BARRED.search(plain), name)


class Interface(unittest.TestCase):
    def test_defined_in_its_file_with_these_arguments(self):
        for file, listed in INTERFACE.items():
            module = importlib.import_module(f"{PACKAGE}.{file}")
            for name, arguments in listed.items():
                with self.subTest(file, name=name):
                    found = getattr(module, name)
                    self.assertEqual(found.__module__, module.__name__)
                    self.assertEqual(self.arguments(found), arguments)

    def arguments(self, found):
        if not inspect.isclass(found):
            return list(inspect.signature(found).parameters)
        if "__init__" not in vars(found):
            return []
        return list(inspect.signature(found.__init__).parameters)[1:]


if __name__ == "__main__":
    unittest.main()
