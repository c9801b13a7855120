"""What a program can see of the rules for the files of the package: sizes, characters, imports, names and builtins."""

import ast
import builtins
import os
import re
import unittest

FOLDER = os.path.join(os.path.dirname(os.path.dirname(os.path.abspath(__file__))), "deltamill")
ERRORS = {"Exception", "ValueError", "TypeError", "KeyError", "IndexError", "LookupError", "ZeroDivisionError",
          "ArithmeticError", "OverflowError", "RuntimeError", "NotImplementedError", "AttributeError", "StopIteration"}
BUILTINS = ERRORS | set("""len range enumerate zip min max sum abs sorted reversed int str bool bytes list tuple dict
    set frozenset isinstance ord repr any all divmod pow getattr hasattr setattr iter next map NotImplemented property
    staticmethod classmethod super object""".split())
METHODS = set("""append clear copy count endswith extend find get index insert isalnum isalpha isdigit islower isspace
    isupper items join keys ljust lower lstrip partition pop remove replace reverse rfind rjust rpartition rsplit rstrip
    setdefault split splitlines startswith strip update upper values zfill bit_length add discard""".split())
NO_NAMES = set("""register mro elements open input law version_info with_traceback add_note attrgetter breakpoint
    builtins compile copyright credits delattr dir eval exec exit gc globals help id importlib license locals
    methodcaller os quit type vars sys""".split())
NO_WORDS = set("""type typing typing_extensions enum Enum IntEnum StrEnum Flag IntFlag Generic Protocol ABC ABCMeta
    namedtuple NamedTuple TypedDict TYPE_CHECKING abstractmethod""".split())
DOUBLE = set("""init eq repr str len enter exit call iter lt le gt ge ne add sub mul floordiv mod pow and or xor lshift
    rshift radd rsub rmul rand ror neg pos invert abs bool contains getitem setitem""".split())
NO_NODES = (ast.Global, ast.AsyncFunctionDef, ast.AsyncFor, ast.AsyncWith, ast.Await, ast.Div, ast.Import)
MODULE_NODES = (ast.ImportFrom, ast.FunctionDef, ast.ClassDef, ast.Assign, ast.Expr)


def sources():
    """The files of the package: a dict from their names to their texts."""
    found = {}
    for name in sorted(os.listdir(FOLDER)):
        if name != "__pycache__":
            with open(os.path.join(FOLDER, name), encoding="utf-8") as file:
                found[name] = file.read()
    return found


def names_given(tree):
    """The names that a file gives to functions, classes, parameters and variables."""
    found = []
    for node in ast.walk(tree):
        if isinstance(node, (ast.FunctionDef, ast.ClassDef)):
            found.append(node.name)
        elif isinstance(node, ast.arg):
            found.append(node.arg)
        elif isinstance(node, ast.Name) and isinstance(node.ctx, ast.Store):
            found.append(node.id)
    return found


class Files(unittest.TestCase):
    def setUp(self):
        self.texts = sources()
        self.trees = {name: ast.parse(text) for name, text in self.texts.items()}
        self.nodes = [(name, node) for name, tree in self.trees.items() for node in ast.walk(tree)]

    def test_names_of_files(self):
        self.assertIn("__init__.py", self.texts)
        for name in self.texts:
            self.assertTrue(re.fullmatch(r"[a-z0-9_]+\.py", name), name)

    def test_sizes(self):
        for name, text in self.texts.items():
            self.assertLessEqual(len(text.splitlines()), 399, name)
            for line in text.splitlines():
                self.assertLessEqual(len(line), 120, (name, line))
        for name, node in self.nodes:
            if isinstance(node, ast.FunctionDef):
                self.assertLessEqual(node.end_lineno - node.lineno + 1, 40, (name, node.name))

    def test_characters(self):
        for name, text in self.texts.items():
            self.assertTrue(all(c == "\n" or " " <= c <= "~" for c in text), name)
        for name, node in self.nodes:
            if isinstance(node, ast.Constant) and isinstance(node.value, str):
                self.assertNotIn("%", node.value, name)

    def test_statements(self):
        for name, node in self.nodes:
            self.assertNotIsInstance(node, NO_NODES, name)
            if isinstance(node, ast.Constant):
                self.assertNotIsInstance(node.value, (float, complex), name)
        for name, tree in self.trees.items():
            for node in tree.body:
                self.assertIsInstance(node, MODULE_NODES, name)
                if isinstance(node, ast.Expr):
                    self.assertIsInstance(node.value, ast.Constant, name)

    def test_imports(self):
        for name, tree in self.trees.items():
            for node in ast.walk(tree):
                if isinstance(node, ast.ImportFrom):
                    self.assertIn(node, tree.body, name)
                    self.assertEqual(node.level, 0, name)
                    self.assertTrue(node.module.startswith("deltamill."), (name, node.module))
                    target = self.trees[node.module.split(".")[1] + ".py"]
                    defined = [part.name for part in target.body if isinstance(part, (ast.FunctionDef, ast.ClassDef))]
                    defined.extend(part.targets[0].id for part in target.body if isinstance(part, ast.Assign))
                    for alias in node.names:
                        self.assertIn(alias.name, defined, name)

    def test_no_imports_in_a_circle(self):
        needs = {name[:-3]: {node.module.split(".")[1] for node in tree.body if isinstance(node, ast.ImportFrom)}
                 for name, tree in self.trees.items()}
        while needs:
            free = [name for name in needs if not needs[name] & set(needs)]
            self.assertTrue(free, needs)
            needs = {name: needs[name] for name in needs if name not in free}

    def test_imports_are_used(self):
        for name, tree in self.trees.items():
            used = {node.id for node in ast.walk(tree) if isinstance(node, ast.Name)}
            for node in tree.body:
                if isinstance(node, ast.ImportFrom):
                    for alias in node.names:
                        self.assertIn(alias.name, used, name)

    def test_names(self):
        for name, tree in self.trees.items():
            classes = {node.name for node in tree.body if isinstance(node, ast.ClassDef)}
            imports = {alias.name for node in tree.body if isinstance(node, ast.ImportFrom) for alias in node.names}
            methods = {part for node in tree.body if isinstance(node, ast.ClassDef) for part in node.body}
            for given in names_given(tree):
                self.assertNotIn(given, NO_NAMES, name)
                if given.startswith("__"):
                    self.assertIn(given.strip("_"), DOUBLE, name)
            for node in ast.walk(tree):
                if isinstance(node, ast.FunctionDef) and node not in methods:
                    self.assertFalse(hasattr(builtins, node.name), (name, node.name))
                if isinstance(node, ast.arg) or isinstance(node, ast.Name) and isinstance(node.ctx, ast.Store):
                    word = node.arg if isinstance(node, ast.arg) else node.id
                    self.assertFalse(hasattr(builtins, word), (name, word))
                    self.assertNotIn(word, classes | imports, name)
                if isinstance(node, ast.Attribute):
                    self.assertNotIn(node.attr, NO_NAMES, name)

    def test_builtins(self):
        for name, node in self.nodes:
            if isinstance(node, ast.Name) and hasattr(builtins, node.id):
                self.assertIn(node.id, BUILTINS, name)

    def test_methods(self):
        own = {node.name for _, node in self.nodes if isinstance(node, ast.FunctionDef)}
        for name, node in self.nodes:
            if isinstance(node, ast.Call) and isinstance(node.func, ast.Attribute):
                self.assertIn(node.func.attr, METHODS | own, name)

    def test_methods_and_attributes(self):
        methods = {part.name for tree in self.trees.values() for node in tree.body if isinstance(node, ast.ClassDef)
                   for part in node.body if isinstance(part, ast.FunctionDef)}
        given = {node.attr for _, node in self.nodes if isinstance(node, ast.Attribute)
                 and isinstance(node.ctx, ast.Store)}
        # The document names the one method and the one attribute that have the same name.
        self.assertEqual(methods & given, {"value"})

    def test_words(self):
        for name, node in self.nodes:
            words = []
            if isinstance(node, ast.Name):
                words = [node.id]
            elif isinstance(node, ast.Attribute):
                words = [node.attr]
            self.assertFalse(set(words) & NO_WORDS, name)
        for name, text in self.texts.items():
            for word in ("dataclass", "overload", "contextmanager", "_wall", "(type)", "Meta", "metaclass="):
                self.assertNotIn(word, text, name)

    def test_generator_expressions(self):
        # The package has classes with __eq__, so any, all, min, max, sum and sorted take lists.
        for name, node in self.nodes:
            if isinstance(node, ast.Call) and isinstance(node.func, ast.Name):
                if node.func.id in ("any", "all", "min", "max", "sum", "sorted", "set"):
                    self.assertFalse([part for part in node.args if isinstance(part, ast.GeneratorExp)], name)


if __name__ == "__main__":
    unittest.main()
