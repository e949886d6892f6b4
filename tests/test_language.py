"""The rules of ../shared/LANGUAGE.md that a look at the source can tell plainly; the others are for the reader."""

import ast
import builtins
import os
import re
import unittest

PACKAGE = os.path.join(os.path.dirname(os.path.dirname(os.path.abspath(__file__))), "onename")

BUILTINS = set("""len range enumerate zip min max sum abs sorted reversed int str bool bytes list tuple dict set
    frozenset isinstance ord repr any all divmod Exception ValueError TypeError KeyError IndexError LookupError
    ZeroDivisionError ArithmeticError OverflowError RuntimeError NotImplementedError AttributeError StopIteration
    NotImplemented""".split())
BARRED_WORDS = set("""type typing typing_extensions enum Enum IntEnum StrEnum Flag IntFlag Generic Protocol ABC
    ABCMeta namedtuple NamedTuple TypedDict TYPE_CHECKING abstractmethod""".split())
BARRED_NAMES = set("""register mro elements open input version_info with_traceback add_note attrgetter breakpoint
    builtins compile copyright credits delattr dir eval exec exit gc getattr globals hasattr help id importlib license
    locals methodcaller os quit setattr type vars""".split())
METHODS = set("""append clear copy count endswith extend find get index insert isalnum isalpha isdigit islower isspace
    isupper items join keys ljust lower lstrip partition pop remove replace reverse rfind rjust rpartition rsplit rstrip
    setdefault split splitlines startswith strip update upper values zfill bit_length""".split())
BARRED_NODES = (ast.Global, ast.AsyncFunctionDef, ast.AsyncFor, ast.AsyncWith, ast.Await, ast.Import, ast.Div)


def sources():
    """Path and text of each source file of the package."""
    for name in sorted(os.listdir(PACKAGE)):
        path = os.path.join(PACKAGE, name)
        if name != "__pycache__":
            with open(path, encoding="utf-8") as file:
                yield path, file.read()


def nodes_of(kind):
    for path, text in sources():
        for node in ast.walk(ast.parse(text)):
            if isinstance(node, kind):
                yield path, node


def bound_names():
    """Each name that the package binds, with its file."""
    for path, node in nodes_of((ast.Name, ast.arg, ast.FunctionDef, ast.ClassDef)):
        if isinstance(node, ast.Name):
            if isinstance(node.ctx, ast.Store):
                yield path, node.id
        else:
            yield path, node.arg if isinstance(node, ast.arg) else node.name


class LanguageTest(unittest.TestCase):
    def test_the_folder_has_source_files_alone(self):
        paths = [path for path, text in sources()]
        self.assertIn(os.path.join(PACKAGE, "__init__.py"), paths)
        for path in paths:
            self.assertRegex(os.path.basename(path), r"\A[a-z_][a-z0-9_]*\.py\Z")

    def test_sizes_and_signs(self):
        for path, text in sources():
            self.assertLessEqual(len(text.splitlines()), 400, path)
            self.assertEqual(set(re.findall(r"[^ -~\n]", text)), set(), path)
            for line in text.splitlines():
                self.assertLessEqual(len(line), 120, (path, line))
        for path, node in nodes_of(ast.FunctionDef):
            self.assertLessEqual(node.end_lineno - node.lineno + 1, 40, (path, node.name))

    def test_barred_words(self):
        for path, text in sources():
            self.assertEqual(set(re.findall(r"\w+", text)) & BARRED_WORDS, set(), path)
            self.assertIsNone(re.search("dataclass|overload|contextmanager", text), path)

    def test_imports_name_the_file_that_defines_the_name(self):
        for path, node in nodes_of(ast.ImportFrom):
            self.assertEqual(node.level, 0, path)
            self.assertRegex(node.module, r"\Aonename\.[a-z_]+\Z", path)
            with open(os.path.join(PACKAGE, node.module.split(".")[1] + ".py"), encoding="utf-8") as file:
                body = ast.parse(file.read()).body
            defined = [getattr(part, "name", None) for part in body]
            for part in body:
                if isinstance(part, ast.Assign):
                    defined.extend(target.id for target in part.targets)
            for alias in node.names:
                self.assertIn(alias.name, defined, path)

    def test_barred_statements_and_values(self):
        self.assertEqual(list(nodes_of(BARRED_NODES)), [])
        for path, node in nodes_of(ast.Constant):
            self.assertNotIsInstance(node.value, (float, complex), path)
            if isinstance(node.value, str):
                self.assertNotIn("%", node.value, path)

    def test_bound_names_are_plain(self):
        for path, name in bound_names():
            self.assertFalse(name in BARRED_NAMES or name in dir(builtins), (path, name))
            if not (name.startswith("__") and name.endswith("__")):
                self.assertRegex(name, r"\A[A-Za-z][A-Za-z0-9_]*\Z", path)

    def test_no_local_name_hides_an_import_or_a_class(self):
        for path, text in sources():
            tree = ast.parse(text)
            taken = {alias.name for node in ast.walk(tree) if isinstance(node, ast.ImportFrom) for alias in node.names}
            taken |= {node.name for node in ast.walk(tree) if isinstance(node, ast.ClassDef)}
            for node in ast.walk(tree):
                if isinstance(node, ast.arg):
                    self.assertNotIn(node.arg, taken, path)
                elif isinstance(node, ast.Name) and isinstance(node.ctx, ast.Store):
                    self.assertNotIn(node.id, taken, path)

    def test_methods_of_builtin_values(self):
        own = {node.name for path, node in nodes_of(ast.FunctionDef)}
        for path, node in nodes_of(ast.Call):
            if isinstance(node.func, ast.Attribute):
                self.assertIn(node.func.attr, METHODS | own, path)

    def test_builtins(self):
        for path, node in nodes_of(ast.Name):
            if node.id in dir(builtins):
                self.assertIn(node.id, BUILTINS, path)


if __name__ == "__main__":
    unittest.main()
