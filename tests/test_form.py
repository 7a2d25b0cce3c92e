"""The form of the package's files: those rules of the written subset that a tree of syntax shows."""

import ast
import builtins
import re
import unittest
from pathlib import Path

PACKAGE = Path(__file__).resolve().parent.parent / "bondwords"

ALLOWED = """len range enumerate zip min max sum abs sorted reversed int str bool bytes list tuple dict set
    isinstance ord repr any all divmod iter next Exception ValueError TypeError KeyError IndexError LookupError
    ZeroDivisionError ArithmeticError OverflowError RuntimeError NotImplementedError StopIteration NotImplemented
    property staticmethod classmethod super object""".split()
DUNDERS = """__init__ __eq__ __repr__ __str__ __len__ __enter__ __exit__ __call__ __iter__""".split()
BARRED_WORDS = """type typing typing_extensions enum Enum IntEnum StrEnum Flag IntFlag Generic Protocol ABC ABCMeta
    namedtuple NamedTuple TypedDict TYPE_CHECKING abstractmethod""".split()
BARRED_NAMES = """register mro elements open input law version_info with_traceback add_note attrgetter breakpoint
    builtins compile copyright credits delattr dir eval exec exit gc getattr globals hasattr help id importlib
    license locals methodcaller os quit setattr type vars sys""".split()
METHODS = """append clear copy count endswith extend find get index insert isalnum isalpha isdigit islower isspace
    isupper items join keys ljust lower lstrip partition pop remove replace reverse rfind rjust rpartition rsplit
    rstrip setdefault split splitlines startswith strip update upper values zfill bit_length sort add discard
    __init__""".split()
BARRED_NODES = (
    ast.Global, ast.AsyncFunctionDef, ast.AsyncFor, ast.AsyncWith, ast.Await, ast.Div, ast.MatMult, ast.Import,
)


def files():
    return sorted(PACKAGE.glob("*.py"))


def each():
    """The name, the text and the tree of each file."""
    for path in files():
        text = path.read_text(encoding="ascii")
        yield path.name, text, ast.parse(text)


def bound_names(tree):
    """All names that a file binds or passes as keywords."""
    for node in ast.walk(tree):
        if isinstance(node, (ast.FunctionDef, ast.ClassDef)):
            yield node.name
        elif isinstance(node, ast.arg):
            yield node.arg
        elif isinstance(node, ast.Name) and isinstance(node.ctx, ast.Store):
            yield node.id
        elif isinstance(node, ast.alias):
            yield node.asname or node.name


def own_methods():
    """The names of all methods that the package defines."""
    names = set()
    for file, text, tree in each():
        for node in ast.walk(tree):
            if isinstance(node, ast.ClassDef):
                names |= {item.name for item in node.body if isinstance(item, ast.FunctionDef)}
    return names


class FormTest(unittest.TestCase):

    def test_the_folder_holds_plain_files_only(self):
        for path in PACKAGE.iterdir():
            if path.name != "__pycache__":
                self.assertRegex(path.name, r"\A[a-z][a-z0-9_]*\.py\Z|\A__init__\.py\Z")

    def test_sizes_and_characters(self):
        for file, text, tree in each():
            self.assertRegex(text, r"\A[ -~\n]*\Z", file)
            lines = text.split("\n")
            self.assertLess(len(lines), 400, file)
            self.assertLessEqual(max(len(line) for line in lines), 120, file)
            for node in ast.walk(tree):
                if isinstance(node, ast.FunctionDef):
                    self.assertLessEqual(node.end_lineno - node.lineno, 39, f"{file}: {node.name}")

    def test_words_that_stand_nowhere(self):
        for file, text, tree in each():
            self.assertEqual(set(re.findall(r"\w+", text)) & set(BARRED_WORDS), set(), file)
            self.assertIsNone(re.search("dataclass|overload|contextmanager", text), file)

    def test_imports(self):
        for file, text, tree in each():
            for node in ast.walk(tree):
                if isinstance(node, ast.ImportFrom):
                    self.assertEqual(node.level, 0)
                    self.assertRegex(node.module, r"\Abondwords\.\w+\Z")
                    source = ast.parse((PACKAGE / f"{node.module.split('.')[1]}.py").read_text())
                    defined = [item.name for item in source.body if isinstance(item, (ast.FunctionDef, ast.ClassDef))]
                    defined += [item.targets[0].id for item in source.body if isinstance(item, ast.Assign)]
                    for alias in node.names:
                        self.assertIn(alias.name, defined, file)

    def test_imported_names_are_used(self):
        for file, text, tree in each():
            used = {node.id for node in ast.walk(tree) if isinstance(node, ast.Name)}
            for node in ast.walk(tree):
                if isinstance(node, ast.ImportFrom):
                    self.assertEqual({alias.name for alias in node.names} - used, set(), file)

    def test_imports_form_no_ring(self):
        ahead = {}
        for file, text, tree in each():
            imports = [node for node in tree.body if isinstance(node, ast.ImportFrom)]
            ahead[file] = {node.module.split(".")[1] + ".py" for node in imports}
        while ahead:
            free = [file for file in ahead if not ahead[file] & set(ahead)]
            self.assertNotEqual(free, [], ahead)
            for file in free:
                del ahead[file]

    def test_names_are_bound_once(self):
        for file, text, tree in each():
            names = [node.name for node in tree.body if isinstance(node, (ast.FunctionDef, ast.ClassDef))]
            names += [node.targets[0].id for node in tree.body if isinstance(node, ast.Assign)]
            names += [alias.name for node in tree.body if isinstance(node, ast.ImportFrom) for alias in node.names]
            self.assertEqual(len(names), len(set(names)), file)

    def test_functions_bind_no_name_of_an_import_or_a_class(self):
        for file, text, tree in each():
            barred = {node.name for node in tree.body if isinstance(node, ast.ClassDef)}
            barred |= {alias.name for node in tree.body if isinstance(node, ast.ImportFrom) for alias in node.names}
            for node in ast.walk(tree):
                if isinstance(node, ast.FunctionDef):
                    self.assertEqual(set(bound_names(node)) & barred, set(), f"{file}: {node.name}")

    def test_module_level(self):
        allowed = (ast.ImportFrom, ast.FunctionDef, ast.ClassDef, ast.Assign)
        for file, text, tree in each():
            self.assertIsNotNone(ast.get_docstring(tree))
            for node in tree.body[1:]:
                self.assertIsInstance(node, allowed, file)

    def test_names(self):
        for file, text, tree in each():
            for name in bound_names(tree):
                if name not in DUNDERS:
                    self.assertRegex(name, r"\A[A-Za-z][A-Za-z0-9_]*\Z")
                    self.assertNotIn(name, BARRED_NAMES, file)
                    self.assertFalse(hasattr(builtins, name), f"{file}: {name}")

    def test_builtins(self):
        for file, text, tree in each():
            for node in ast.walk(tree):
                if isinstance(node, ast.Name) and hasattr(builtins, node.id):
                    self.assertIn(node.id, ALLOWED, file)

    def test_methods_that_are_called(self):
        allowed = own_methods() | set(METHODS)
        for file, text, tree in each():
            for node in ast.walk(tree):
                if isinstance(node, ast.Call) and isinstance(node.func, ast.Attribute):
                    self.assertIn(node.func.attr, allowed, file)

    def test_signs_and_literals(self):
        for file, text, tree in each():
            for node in ast.walk(tree):
                self.assertNotIsInstance(node, BARRED_NODES, file)
                if isinstance(node, ast.Constant):
                    self.assertNotIsInstance(node.value, (float, complex))
                    if isinstance(node.value, str):
                        self.assertNotIn("%", node.value)

    def test_no_method_shares_its_name_with_an_attribute(self):
        methods = own_methods()
        for file, text, tree in each():
            for node in ast.walk(tree):
                if isinstance(node, ast.Attribute) and isinstance(node.ctx, ast.Store):
                    self.assertNotIn(node.attr, methods, file)

    def test_no_generator_in_any_and_its_kin(self):
        for file, text, tree in each():
            for node in ast.walk(tree):
                if isinstance(node, ast.Call) and isinstance(node.func, ast.Name):
                    if node.func.id in ("any", "all", "min", "max", "sum", "sorted"):
                        for arg in node.args:
                            self.assertNotIsInstance(arg, ast.GeneratorExp)

    def test_decorators(self):
        for file, text, tree in each():
            for node in ast.walk(tree):
                if isinstance(node, (ast.FunctionDef, ast.ClassDef)):
                    for decorator in node.decorator_list:
                        self.assertIsInstance(node, ast.FunctionDef)
                        self.assertEqual(ast.unparse(decorator), "property", file)

    def test_sets_are_sorted_on_the_spot(self):
        for file, text, tree in each():
            sorted_at_once = []
            for node in ast.walk(tree):
                if isinstance(node, ast.Call) and isinstance(node.func, ast.Name) and node.func.id in ("sorted", "len"):
                    sorted_at_once += node.args
            for node in ast.walk(tree):
                makes_a_set = isinstance(node, ast.Call) and ast.unparse(node.func) in ("set", "frozenset")
                if makes_a_set or isinstance(node, (ast.Set, ast.SetComp)):
                    self.assertIn(node, sorted_at_once, file)

    def test_generators(self):
        """Each has a name of its own; none is called by the package, nor used as a value."""
        generators = []
        for file, text, tree in each():
            for node in ast.walk(tree):
                if isinstance(node, ast.FunctionDef):
                    if any(isinstance(part, (ast.Yield, ast.YieldFrom)) for part in ast.walk(node)):
                        generators.append(node.name)
        self.assertEqual(sorted(generators), ["shortest_words", "words_below", "words_of"])
        for file, text, tree in each():
            used = [node.id for node in ast.walk(tree) if isinstance(node, ast.Name)]
            used += [node.attr for node in ast.walk(tree) if isinstance(node, ast.Attribute)]
            used += [alias.name for node in ast.walk(tree) if isinstance(node, ast.ImportFrom) for alias in node.names]
            used += [node.arg for node in ast.walk(tree) if isinstance(node, ast.arg)]
            self.assertEqual(set(used) & set(generators), set(), file)

    def test_what_ends_a_block(self):
        """An __exit__ assigns attributes and names, and does nothing else."""
        for file, text, tree in each():
            for node in ast.walk(tree):
                if isinstance(node, ast.FunctionDef) and node.name == "__exit__":
                    self.assertEqual([arg.arg for arg in node.args.args], ["self", "kind", "value", "trace"])
                    for row in node.body:
                        self.assertIsInstance(row, ast.Assign)
                        self.assertRegex(ast.unparse(row), r"\Aself\.\w+\.\w+ = self\.\w+\Z")


if __name__ == "__main__":
    unittest.main()
