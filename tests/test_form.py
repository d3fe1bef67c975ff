"""The rules of LANGUAGE.md that can be seen in a file without running it, and the interface as it is written."""

import ast
import builtins
import importlib
import inspect
import os
import re
import unittest

PACKAGE = "solvedbothsides"
FOLDER = os.path.join(os.path.dirname(os.path.dirname(os.path.abspath(__file__))), PACKAGE)
LIBRARY = {
    "heapq": {"heappush", "heappop", "heapify", "heapreplace", "heappushpop"},
    "math": {"gcd", "lcm", "isqrt", "comb", "perm", "factorial"},
    "itertools": {
        "product", "combinations", "permutations", "chain", "accumulate", "pairwise", "islice", "zip_longest",
    },
    "collections": {"defaultdict"},
}
BUILTINS = set(
    "len range enumerate zip min max sum abs sorted reversed int str bool list tuple dict set frozenset isinstance ord "
    "repr any all divmod pow getattr hasattr setattr map iter next super property staticmethod classmethod object "
    "Exception ValueError TypeError KeyError IndexError LookupError ZeroDivisionError ArithmeticError OverflowError "
    "RuntimeError NotImplementedError AttributeError StopIteration NotImplemented bytes".split()
)
BARRED = re.compile(
    r"\b(type|typing|typing_extensions|enum|Enum|IntEnum|StrEnum|Flag|IntFlag|Generic|Protocol|ABC|ABCMeta|namedtuple|"
    r"NamedTuple|TypedDict|TYPE_CHECKING|abstractmethod)\b|dataclass|overload|contextmanager|_wall"
)
# What is no name of anything; in a string it may stand.
NO_NAMES = set("register mro elements open input law version_info with_traceback add_note".split())
METHODS = set(
    "append clear copy count endswith extend find get index insert isalnum isalpha isdigit islower isspace isupper "
    "items join keys ljust lower lstrip partition pop remove replace reverse rfind rjust rpartition rsplit rstrip "
    "setdefault split splitlines startswith strip update upper values zfill bit_length add discard".split()
)
# What the interface lists for each file that has landed, with the names of the arguments.
INTERFACE = {
    "formulas": {
        "size": ["formula"],
        "formula_error": ["names", "value"],
        "solved": ["formula", "name", "out"],
    },
    "facts": {
        "facts_error": ["value"], "merged": ["facts"], "forcing": ["facts", "one", "other"], "clash": ["facts"],
    },
    "tables": {
        "table_error": ["value"], "outcome": ["table", "one", "other"], "behind": ["table", "one", "out"],
        "ahead": ["table", "other", "out"], "value": ["table", "things", "formula"],
        "holds": ["table", "one", "other"], "kinds": ["table"],
    },
    "worlds": {
        "world_error": ["facts", "value"], "verdict": ["facts", "one", "other"], "parted": ["facts", "one", "other"],
        "joined": ["facts", "one", "other"], "world": ["facts"], "world_of": ["facts", "size"],
    },
    "blocks": {
        "block_error": ["size", "value"], "lacking": ["block", "size"], "completed": ["block", "size"],
        "begun_error": ["value"], "grown": ["begun", "size"],
    },
    "plain": {
        "plain": ["facts", "formula"], "same": ["facts", "one", "other"], "road": ["facts", "one", "other"],
        "is_road": ["facts", "one", "other", "value"],
    },
    "follow": {"follows": ["facts", "entry"], "spare": ["facts"], "alike": ["one", "other"]},
    "placing": {"placed": ["facts", "table"], "places": ["facts", "table"]},
    "turning": {
        "turned": ["table", "way"], "turned_facts": ["facts", "way"], "turned_formula": ["formula", "way"],
        "back": ["way"],
    },
    "digits": {"mark": ["table", "word"], "is_marked": ["table", "word"], "missed": ["table"]},
    "ciphers": {
        "ciphered": ["table", "key", "word"], "deciphered": ["table", "key", "word"], "keys": ["table", "pairs"],
    },
    "givens": {
        "givens_error": ["names", "value"], "torn": ["facts", "givens"],
        "verdict_given": ["facts", "givens", "one", "other"], "reasons": ["facts", "givens", "one", "other"],
        "world_given": ["facts", "givens", "one", "other", "is_same"],
    },
    "least": {"least_size": ["facts"]},
    "spans": {"span": ["table", "things"], "lone": ["table"], "makers": ["table"]},
    "books": {"Book": ["facts"]},
    "texts": {
        "formula_text": ["formula"], "facts_text": ["facts"], "read_formula": ["names", "value"],
        "read_facts": ["value"],
    },
    "desks": {"Desk": ["book"]},
    "errors": {
        "BadFacts": ["number", "word"], "BadFormula": ["word"], "BadSize": ["size"], "BadText": ["line", "number"],
        "Full": [], "NoTable": ["pair", "numbers"], "NotOnce": ["name"], "NothingToUndo": [], "TableError": [],
        "Taken": ["name"], "TooMany": ["limit"], "TornGivens": ["numbers"], "UnlikeNames": ["one", "other"],
        "NoClaim": ["number"], "NoEntry": ["number"], "NoPair": ["number"],
    },
}
# What the interface lists for each class that is no error, with the names of the arguments; None for a property.
MEMBERS = {
    ("books", "Book"): {
        "facts": None, "claims": None, "version": None, "changed": None, "told": [],
        "note": ["one", "other", "out"], "strike": ["number"], "part": ["one", "other"], "drop": ["number"],
        "claim": ["one", "other"], "forget": ["number"], "undo": [], "tried": ["function"],
    },
    ("desks", "Desk"): {"say": ["line"], "history": None},
}


def files():
    return sorted(name for name in os.listdir(FOLDER) if name != "__pycache__")


def text_of(name):
    with open(os.path.join(FOLDER, name), encoding="utf-8") as file:
        return file.read()


def docstrings(tree):
    return [
        node.body[0].value for node in ast.walk(tree)
        if isinstance(node, (ast.Module, ast.ClassDef, ast.FunctionDef)) and ast.get_docstring(node) is not None
    ]


def bound_names(tree):
    """Return the names that a file binds anywhere but as methods: imports, functions, classes, arguments, targets."""
    found = set()
    methods = {id(part) for node in ast.walk(tree) if isinstance(node, ast.ClassDef) for part in node.body}
    for node in ast.walk(tree):
        if isinstance(node, (ast.FunctionDef, ast.ClassDef)):
            if id(node) not in methods:
                found.add(node.name)
        elif isinstance(node, ast.alias):
            found.add(node.asname or node.name)
        elif isinstance(node, ast.arg):
            found.add(node.arg)
        elif isinstance(node, ast.Name) and isinstance(node.ctx, ast.Store):
            found.add(node.id)
        elif isinstance(node, (ast.ExceptHandler, ast.MatchAs, ast.MatchStar)) and node.name:
            found.add(node.name)
    return found


class Files(unittest.TestCase):
    def each(self):
        return [(name, text_of(name), ast.parse(text_of(name))) for name in files()]

    def test_names_of_files(self):
        self.assertIn("__init__.py", files())
        for name in files():
            self.assertRegex(name, r"\A([a-z][a-z0-9_]*|__init__|__main__)\.py\Z")

    def test_characters(self):
        for name, text, _ in self.each():
            self.assertRegex(text, r"\A[ -~\n]*\Z", name)

    def test_sizes(self):
        for name, text, tree in self.each():
            self.assertLessEqual(len(text.splitlines()), 399, name)
            self.assertLessEqual(max(map(len, text.splitlines())), 120, name)
            for node in ast.walk(tree):
                if isinstance(node, ast.FunctionDef):
                    self.assertLessEqual(node.end_lineno - node.lineno + 1, 40, (name, node.name))

    def test_module_level(self):
        allowed = (ast.ImportFrom, ast.FunctionDef, ast.ClassDef, ast.Assign)
        for name, _, tree in self.each():
            for node in tree.body[1:] if name != "__main__.py" else []:
                self.assertIsInstance(node, allowed, name)

    def test_imports(self):
        for name, _, tree in self.each():
            for node in ast.walk(tree):
                self.assertNotIsInstance(node, ast.Import, name)
                if isinstance(node, ast.ImportFrom):
                    self.check_import(node)

    def check_import(self, node):
        self.assertEqual(node.level, 0)
        if node.module in LIBRARY:
            self.assertLessEqual({alias.name for alias in node.names}, LIBRARY[node.module])
            return
        package, _, module = node.module.partition(".")
        self.assertEqual(package, PACKAGE)
        # The file itself has to bind the name, and not to import it in its turn.
        defined = {part.name for part in ast.parse(text_of(module + ".py")).body if hasattr(part, "name")}
        for part in ast.parse(text_of(module + ".py")).body:
            if isinstance(part, ast.Assign):
                defined.update(target.id for target in part.targets)
        for alias in node.names:
            self.assertIn(alias.name, defined)

    def test_values_and_statements(self):
        barred = (ast.Global, ast.AsyncFunctionDef, ast.AsyncFor, ast.AsyncWith, ast.Await, ast.Div)
        for name, _, tree in self.each():
            told = docstrings(tree)
            for node in ast.walk(tree):
                self.assertNotIsInstance(node, barred, name)
                if isinstance(node, ast.Constant) and node not in told:
                    self.assertNotIsInstance(node.value, (float, complex), name)
                    self.assertNotIn("%", node.value if isinstance(node.value, str) else "", name)

    def test_builtins(self):
        for name, _, tree in self.each():
            bound = bound_names(tree)
            # A session that was run keeps its last value among the builtins, as "_".
            self.assertEqual(bound & set(dir(builtins)) - {"_"}, set(), name)
            for node in ast.walk(tree):
                if isinstance(node, ast.Name) and node.id not in bound:
                    self.assertIn(node.id, BUILTINS, name)

    def test_no_names(self):
        for name, _, tree in self.each():
            told = bound_names(tree)
            for node in ast.walk(tree):
                if isinstance(node, (ast.FunctionDef, ast.ClassDef)):
                    told.add(node.name)
                elif isinstance(node, ast.Attribute):
                    told.add(node.attr)
                elif isinstance(node, (ast.Name, ast.keyword)):
                    told.add(node.id if isinstance(node, ast.Name) else node.arg)
            self.assertEqual(told & NO_NAMES, set(), name)

    def test_no_argument_or_variable_has_the_name_of_an_import_or_a_class_of_its_file(self):
        for name, _, tree in self.each():
            taken = {part.name for part in tree.body if isinstance(part, ast.ClassDef)}
            for node in ast.walk(tree):
                if isinstance(node, ast.ImportFrom):
                    taken.update(alias.name for alias in node.names)
            for node in ast.walk(tree):
                if isinstance(node, ast.arg):
                    self.assertNotIn(node.arg, taken, name)
                elif isinstance(node, ast.Name) and isinstance(node.ctx, ast.Store):
                    self.assertNotIn(node.id, taken, name)

    def test_one_binding_for_each_name(self):
        for name, _, tree in self.each():
            found = [part.name for part in tree.body if hasattr(part, "name")]
            for part in tree.body:
                if isinstance(part, ast.ImportFrom):
                    found += [alias.name for alias in part.names]
                elif isinstance(part, ast.Assign):
                    self.assertEqual(len(part.targets), 1, name)
                    found += [target.id for target in part.targets]
            self.assertEqual(len(found), len(set(found)), name)

    def test_each_import_is_used(self):
        for name, _, tree in self.each():
            read = {node.id for node in ast.walk(tree) if isinstance(node, ast.Name)}
            for node in ast.walk(tree):
                if isinstance(node, ast.ImportFrom):
                    self.assertLessEqual({alias.name for alias in node.names}, read, name)

    def test_no_two_files_import_from_each_other(self):
        behind = {}
        for name, _, tree in self.each():
            modules = [node.module for node in ast.walk(tree) if isinstance(node, ast.ImportFrom)]
            behind[name] = {module.partition(".")[2] + ".py" for module in modules if module.startswith(PACKAGE)}
        for name in behind:
            reached, waiting = set(), list(behind[name])
            while waiting:
                further = waiting.pop()
                if further not in reached:
                    reached.add(further)
                    waiting += behind[further]
            self.assertNotIn(name, reached)

    def test_methods(self):
        own = {
            part.name for _, _, tree in self.each() for node in tree.body if isinstance(node, ast.ClassDef)
            for part in node.body if isinstance(part, ast.FunctionDef)
        }
        for name, _, tree in self.each():
            for node in ast.walk(tree):
                if isinstance(node, ast.Call) and isinstance(node.func, ast.Attribute):
                    self.assertIn(node.func.attr, METHODS | own, name)

    def test_sets_stand_only_where_they_may(self):
        for name, _, tree in self.each():
            for function in ast.walk(tree):
                if isinstance(function, ast.FunctionDef):
                    self.check_sets(function, name)

    def check_sets(self, function, name):
        """Check that a set is kept under a name that is only asked and added to, or stands in len or sorted."""
        kept = set()
        made = []
        for node in ast.walk(function):
            if isinstance(node, (ast.Set, ast.SetComp)) or (
                isinstance(node, ast.Call) and isinstance(node.func, ast.Name) and node.func.id == "set"
            ):
                made.append(node)
            if isinstance(node, ast.For):
                self.assertNotIsInstance(node.iter, (ast.Set, ast.SetComp), name)
        around = {id(child): node for node in ast.walk(function) for child in ast.iter_child_nodes(node)}
        for node in made:
            above = around[id(node)]
            if isinstance(above, ast.Assign):
                kept.add(above.targets[0].id)
            elif isinstance(above, ast.Call):
                self.assertIn(above.func.id, ("len", "sorted"), (name, function.name))
            else:
                self.assertIsInstance(above, ast.Compare, (name, function.name))
        for node in ast.walk(function):
            if isinstance(node, ast.Name) and node.id in kept and isinstance(node.ctx, ast.Load):
                above = around[id(node)]
                asked = isinstance(above, ast.Compare) and node in above.comparators
                added = isinstance(above, ast.Attribute) and above.attr in ("add", "discard")
                measured = isinstance(above, ast.Call) and above.func.id in ("len", "sorted")
                self.assertTrue(asked or added or measured, (name, function.name))

    def test_no_generators(self):
        # Beside a class that compares, what any, all, min, max, sum and sorted take is a list.
        for name, _, tree in self.each():
            for node in ast.walk(tree):
                self.assertNotIsInstance(node, (ast.GeneratorExp, ast.Yield, ast.YieldFrom), name)
                self.assertFalse(isinstance(node, ast.Attribute) and node.attr == "sort", name)

    def test_classes(self):
        allowed = {"__init__", "__eq__", "__str__", "__len__", "__getitem__", "__iter__"}
        for name, _, tree in self.each():
            for node in ast.walk(tree):
                if isinstance(node, ast.ClassDef):
                    self.assertEqual(node.decorator_list, [])
                    self.check_class(node, allowed, name)
                elif isinstance(node, ast.FunctionDef):
                    told = [found.id for found in node.decorator_list]
                    self.assertIn(told, ([], ["property"]), name)

    def check_class(self, node, allowed, name):
        """Check what stands in a class, and that no name is both a method's and an attribute's."""
        methods = {part.name for part in node.body if isinstance(part, ast.FunctionDef)}
        self.assertLessEqual({method for method in methods if method.startswith("__")}, allowed, name)
        for part in node.body:
            docstring = isinstance(part, ast.Expr) and isinstance(part.value, ast.Constant)
            self.assertTrue(docstring or isinstance(part, ast.FunctionDef), name)
        attributes = {
            part.attr for part in ast.walk(node) if isinstance(part, ast.Attribute) and isinstance(part.ctx, ast.Store)
        }
        self.assertEqual(methods & attributes, set(), name)
        self.assertEqual((methods | attributes) & METHODS, set(), name)
        # Whatever has items by their numbers tells by itself that it is not gone through.
        self.assertEqual("__getitem__" in methods, "__iter__" in methods, name)

    def test_errors_that_are_caught_are_own(self):
        own = set(INTERFACE["errors"])
        for name, _, tree in self.each():
            for node in ast.walk(tree):
                if isinstance(node, ast.ExceptHandler):
                    self.assertIn(node.type.id, own, name)

    def test_barred_words(self):
        for name, text, tree in self.each():
            plain = "\n".join(re.sub(r"#.*", "", line) for line in text.split("\n"))
            for node in docstrings(tree):
                plain = plain.replace(node.value, "")
            self.assertIsNone(BARRED.search(plain), name)


class Interface(unittest.TestCase):
    def test_defined_in_its_file_with_these_arguments(self):
        for file, listed in INTERFACE.items():
            module = importlib.import_module(f"{PACKAGE}.{file}")
            for name, arguments in listed.items():
                with self.subTest(file, name=name):
                    found = getattr(module, name)
                    self.assertEqual(found.__module__, module.__name__)
                    self.assertEqual(self.arguments(found), arguments)

    def test_members_are_defined_in_their_class(self):
        for (file, name), members in MEMBERS.items():
            found = vars(getattr(importlib.import_module(f"{PACKAGE}.{file}"), name))
            for member, arguments in members.items():
                with self.subTest(name, member=member):
                    if arguments is None:
                        self.assertIsInstance(found[member], property)
                        self.assertIsNone(found[member].fset)
                        self.assertIsNone(found[member].fdel)
                    else:
                        self.assertEqual(list(inspect.signature(found[member]).parameters)[1:], arguments)

    def test_operators_are_defined_in_their_class(self):
        found = vars(importlib.import_module(f"{PACKAGE}.books").Book)
        self.assertLessEqual({"__getitem__", "__len__", "__eq__", "__str__"}, set(found))

    def test_every_file_and_name_of_the_interface(self):
        listed = sorted(name + ".py" for name in INTERFACE)
        self.assertEqual(len(listed), 18)
        self.assertLessEqual(set(listed), set(files()))

    def arguments(self, found):
        if not inspect.isclass(found):
            return list(inspect.signature(found).parameters)
        if "__init__" not in vars(found):
            return []
        return list(inspect.signature(found.__init__).parameters)[1:]


if __name__ == "__main__":
    unittest.main()
