"""Holds the package to those rules of its language that can be seen in the code without running it."""

import ast
import builtins
import pathlib
import re
import unittest
import warnings

PACKAGE = pathlib.Path(__file__).resolve().parent.parent / "doorslips"

LIBRARY = {
    "heapq": ("heappush", "heappop", "heapify", "heapreplace", "heappushpop"),
    "math": ("gcd", "lcm", "isqrt", "comb", "perm", "factorial"),
    "itertools": (
        "product", "combinations", "permutations", "chain", "accumulate", "pairwise", "islice", "zip_longest",
    ),
    "collections": ("defaultdict", "deque"),
}

BUILTINS = (
    "len range enumerate zip min max sum abs sorted reversed int str bool list tuple dict set isinstance ord repr "
    "any all divmod pow map iter next super property staticmethod classmethod Exception ValueError TypeError KeyError "
    "IndexError LookupError ZeroDivisionError ArithmeticError OverflowError RuntimeError NotImplementedError "
    "AttributeError StopIteration NotImplemented"
).split()

METHODS = (
    "append clear copy count endswith extend find get index insert isalnum isalpha isdigit islower isspace isupper "
    "items join keys ljust lower lstrip partition pop remove replace reverse rfind rjust rpartition rsplit rstrip "
    "setdefault split splitlines startswith strip update upper values zfill bit_length title capitalize swapcase "
    "casefold center expandtabs removeprefix removesuffix rindex isascii isdecimal isnumeric istitle isidentifier "
    "isprintable add discard sort appendleft popleft rotate __init__"
).split()

BARRED_WORDS = (
    "type typing typing_extensions enum Enum IntEnum StrEnum Flag IntFlag Generic Protocol ABC ABCMeta namedtuple "
    "NamedTuple TypedDict TYPE_CHECKING abstractmethod dataclass overload contextmanager register mro elements open "
    "input law version_info with_traceback add_note eval exec compile globals locals vars dir id exit quit sys os"
).split()

BARRED_NODES = (ast.AsyncFunctionDef, ast.AsyncFor, ast.AsyncWith, ast.Await, ast.Global, ast.Import)

# A doctest that ran earlier may have left its last answer among the builtins, as _.
PYTHONS_OWN = set(dir(builtins)) - {"_"}

# What the interface lists under each file, and nothing that stands elsewhere.
INTERFACE = {
    "errors": (
        "InvalidHouse", "InvalidUse", "InvalidKeeper", "InvalidWorths", "InvalidClaim", "ParseError", "UnknownKind",
        "UnknownEntry", "UnknownCheckpoint", "UnknownRecord", "Never", "Stays", "NotNow", "Lacking", "LimitExceeded",
    ),
    "houses": ("require_house", "contents"),
    "kinds": ("after", "table"),
    "uses": ("require_use", "all_sets"),
    "histories": ("is_history", "inside", "due"),
    "pairs": ("pairs",),
    "questions": ("doors", "questions"),
    "clashes": ("clashes", "never_cases"),
    "slips": ("least_slips", "classes"),
    "keepers": ("require_keeper", "keeper_of", "played", "first_error"),
    "exchanges": ("exchange_of",),
    "sets": ("sets_that_go", "best_worth", "best_goers"),
    "claims": ("require_claim", "decide"),
    "checker": ("first_fault",),
    "windows": ("Window",),
    "texts": ("format_house", "format_use", "parse_house", "parse_use"),
}

# What a generator expression may stand in, and what it may stand in only where no class has a truth of its own.
# sorted is in neither: it takes a list, whatever the classes are.
TAKERS = ("list", "tuple", "dict", "join")
ASKING_TAKERS = ("any", "all", "min", "max", "sum")

# The methods that stand in the body of the class itself.
METHODS_OF_WINDOW = (
    "__init__", "__len__", "enter", "leave", "content", "due", "is_due", "inside", "kind_of", "slip", "case", "use",
    "keeper", "set_use", "set_kind", "house", "set_keeper", "checkpoint", "restore", "decide", "record", "records",
    "recorded", "standing",
)


def imports_of(tree):
    """Return the imports of a file as pairs of a module and a name."""
    found = []
    for node in ast.walk(tree):
        if isinstance(node, ast.ImportFrom):
            found += [(node.module, name.name) for name in node.names]
    return found


def bound_names(tree):
    """Return the names that functions, classes, parameters, imports and assignments bind; methods may share them."""
    methods = [
        method for node in ast.walk(tree) if isinstance(node, ast.ClassDef)
        for method in node.body if isinstance(method, ast.FunctionDef)
    ]
    names = [name for _, name in imports_of(tree)]
    for node in ast.walk(tree):
        if isinstance(node, (ast.FunctionDef, ast.ClassDef)) and node not in methods:
            names.append(node.name)
        elif isinstance(node, ast.arg):
            names.append(node.arg)
        elif isinstance(node, ast.Name) and isinstance(node.ctx, ast.Store):
            names.append(node.id)
    return names


def is_len_of_a_name(node):
    """Tell whether a node is the len of a name or of an attribute off a name."""
    if not isinstance(node, ast.Call) or not isinstance(node.func, ast.Name) or node.func.id != "len":
        return False
    of = node.args[0]
    return isinstance(of, ast.Name) or isinstance(of, ast.Attribute) and isinstance(of.value, ast.Name)


def has_own_truth(class_node):
    """Tell whether a class has an __eq__, a __bool__, or a __len__ that is not the len of a name or an attribute."""
    for method in class_node.body:
        name = getattr(method, "name", None)
        if name in ("__eq__", "__bool__"):
            return True
        if name == "__len__":
            returned = [node.value for node in ast.walk(method) if isinstance(node, ast.Return)]
            if not all(is_len_of_a_name(value) for value in returned):
                return True
    return False


def generator_expressions(tree):
    """Return pairs of a generator expression and the name of what it stands straight in, which is None for others."""
    takers = {}
    for node in ast.walk(tree):
        if isinstance(node, ast.Call) and isinstance(node.func, ast.Name):
            takers.update({argument: node.func.id for argument in node.args})
        elif isinstance(node, ast.Call) and isinstance(node.func, ast.Attribute) and node.func.attr == "join":
            if isinstance(node.func.value, ast.Constant):
                takers.update({argument: "join" for argument in node.args})
    return [(node, takers.get(node)) for node in ast.walk(tree) if isinstance(node, ast.GeneratorExp)]


class TestLanguage(unittest.TestCase):
    def setUp(self):
        self.texts = {path.stem: path.read_text(encoding="utf-8") for path in sorted(PACKAGE.glob("*.py"))}
        self.trees = {name: ast.parse(text) for name, text in self.texts.items()}

    def nodes(self, *kinds):
        """Return pairs of a place and a node, for all nodes of these kinds."""
        return [
            (f"{name}, line {node.lineno}", node)
            for name, tree in self.trees.items() for node in ast.walk(tree) if isinstance(node, kinds)
        ]

    def test_files(self):
        for path in PACKAGE.iterdir():
            if path.name != "__pycache__":
                self.assertRegex(path.name, r"\A[a-z0-9_]+\.py\Z")
        self.assertIn("__init__", self.texts)

    def test_sizes_and_characters(self):
        for name, text in self.texts.items():
            lines = text.split("\n")
            self.assertLessEqual(len(lines) - 1, 399, name)
            self.assertLessEqual(max(len(line) for line in lines), 120, name)
            self.assertRegex(text, r"\A[ -~\n]*\Z", name)
        for place, node in self.nodes(ast.FunctionDef):
            self.assertLessEqual(node.end_lineno - node.lineno + 1, 40, place)

    def test_no_warnings(self):
        for name, text in self.texts.items():
            with warnings.catch_warnings():
                warnings.simplefilter("error")
                compile(text, name, "exec")

    def test_imports(self):
        for name, tree in self.trees.items():
            for module, imported in imports_of(tree):
                with self.subTest(file=name, module=module, imported=imported):
                    if module in LIBRARY:
                        self.assertIn(imported, LIBRARY[module])
                    else:
                        package, file = module.split(".")
                        self.assertEqual(package, "doorslips")
                        defined = [getattr(node, "name", None) for node in self.trees[file].body]
                        stored = [
                            target.id for node in self.trees[file].body if isinstance(node, ast.Assign)
                            for target in node.targets
                        ]
                        self.assertIn(imported, defined + stored)
        for place, node in self.nodes(ast.ImportFrom):
            self.assertEqual(node.level, 0, place)

    def test_no_two_files_import_from_each_other(self):
        needs = {
            name: {module.split(".")[1] for module, _ in imports_of(tree) if module not in LIBRARY}
            for name, tree in self.trees.items()
        }
        while needs:
            free = [name for name in needs if not needs[name] & set(needs)]
            self.assertTrue(free, f"a circle among {sorted(needs)}")
            for name in free:
                del needs[name]

    def test_module_level(self):
        for name, tree in self.trees.items():
            for place, node in enumerate(tree.body):
                with self.subTest(file=name, line=node.lineno):
                    docstring = place == 0 and isinstance(node, ast.Expr) and isinstance(node.value, ast.Constant)
                    plain = isinstance(node, (ast.ImportFrom, ast.FunctionDef, ast.ClassDef, ast.Assign))
                    self.assertTrue(docstring or plain)

    def test_no_statement_or_value_outside_the_language(self):
        self.assertEqual(self.nodes(*BARRED_NODES), [])
        for place, node in self.nodes(ast.FunctionDef, ast.ClassDef):
            self.assertEqual(node.decorator_list, [], place)
        for place, node in self.nodes(ast.BinOp, ast.AugAssign):
            self.assertNotIsInstance(node.op, (ast.Div, ast.MatMult), place)
        for place, node in self.nodes(ast.Compare):
            for operator, side in zip(node.ops, node.comparators):
                if isinstance(operator, (ast.Is, ast.IsNot)):
                    self.assertIsInstance(side, ast.Constant, place)
                    self.assertIn(side.value, (None, True, False), place)
        for place, node in self.nodes(ast.Constant):
            self.assertNotIsInstance(node.value, (float, complex), place)

    def test_generator_expressions(self):
        own_truths = [node.name for _, node in self.nodes(ast.ClassDef) if has_own_truth(node)]
        takers = TAKERS if own_truths else TAKERS + ASKING_TAKERS
        for name, tree in self.trees.items():
            for node, taker in generator_expressions(tree):
                self.assertIn(taker, takers, f"{name}, line {node.lineno}, own truths of {own_truths}")

    def test_names(self):
        for name, tree in self.trees.items():
            bound = bound_names(tree)
            for word in bound:
                with self.subTest(file=name, word=word):
                    self.assertRegex(word, r"\A(_|_?[A-Za-z][A-Za-z0-9_]*)\Z")
                    self.assertNotIn(word, PYTHONS_OWN)
            imported = [word for _, word in imports_of(tree)]
            classes = [node.name for node in tree.body if isinstance(node, ast.ClassDef)]
            for word in imported + classes:
                self.assertEqual(bound.count(word), 1, f"{name}: {word}")

    def test_builtins_and_methods(self):
        for place, node in self.nodes(ast.Name):
            if node.id in PYTHONS_OWN:
                self.assertIn(node.id, BUILTINS, place)
        own = [node.name for _, node in self.nodes(ast.FunctionDef)]
        for place, node in self.nodes(ast.Call):
            if isinstance(node.func, ast.Attribute):
                self.assertIn(node.func.attr, METHODS + own, place)

    def test_words_and_strings(self):
        for name, tree in self.trees.items():
            docstrings = [
                ast.get_docstring(node, clean=False) for node in ast.walk(tree)
                if isinstance(node, (ast.Module, ast.FunctionDef, ast.ClassDef))
            ]
            for node in ast.walk(tree):
                words = [getattr(node, field, None) for field in ("id", "attr", "arg", "name")]
                for word in words:
                    self.assertNotIn(word, BARRED_WORDS, name)
                if isinstance(node, ast.Constant) and isinstance(node.value, str) and node.value not in docstrings:
                    self.assertNotIn("%", node.value, name)
                    self.assertFalse(set(re.findall(r"\w+", node.value)) & set(BARRED_WORDS), name)
            self.assertNotIn("_wall", self.texts[name])

    def test_the_interface_is_defined_where_it_is_listed(self):
        for file, listed in INTERFACE.items():
            defined = [
                node.name for node in self.trees[file].body if isinstance(node, (ast.FunctionDef, ast.ClassDef))
            ]
            for name in listed:
                with self.subTest(file=file, name=name):
                    self.assertEqual(defined.count(name), 1)

    def test_the_methods_are_defined_in_the_class_itself(self):
        classes = [node for node in self.trees["windows"].body if isinstance(node, ast.ClassDef)]
        self.assertEqual([node.name for node in classes], ["Window"])
        defined = [node.name for node in classes[0].body if isinstance(node, ast.FunctionDef)]
        for name in METHODS_OF_WINDOW:
            with self.subTest(name=name):
                self.assertEqual(defined.count(name), 1)


if __name__ == "__main__":
    unittest.main()
