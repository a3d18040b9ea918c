"""What ../shared/LANGUAGE.md asks of the package's files, as far as a short test can see it."""

import ast
import builtins
import pathlib
import re
import unittest

PACKAGE = pathlib.Path(__file__).resolve().parent.parent / "guestworlds"
FILES = sorted(path for path in PACKAGE.rglob("*") if "__pycache__" not in path.parts and path.is_file())
BARRED_WORDS = (
    "type", "typing", "typing_extensions", "enum", "Enum", "IntEnum", "StrEnum", "Flag", "IntFlag", "Generic",
    "Protocol", "ABC", "ABCMeta", "namedtuple", "NamedTuple", "TypedDict", "TYPE_CHECKING", "abstractmethod",
)
BARRED_PARTS = ("dataclass", "overload", "contextmanager")
ALLOWED_BUILTINS = (
    "len range enumerate zip min max sum abs sorted reversed int str bool bytes list tuple dict set frozenset "
    "isinstance ord repr any all divmod iter next super property staticmethod classmethod Exception ValueError "
    "TypeError KeyError IndexError LookupError ZeroDivisionError ArithmeticError OverflowError RuntimeError "
    "NotImplementedError AttributeError StopIteration NotImplemented"
).split()
INTERFACE = {
    "errors": {name: () for name in (
        "WorldError BadCells BadKind BadEar BadCount BadWay BadShare NoRoom NoGuest TooMany Busy BadText".split())},
    "machine": {"Machine": ("go", "said", "carried"), "gone_on": None},
    "ground": {"Ground": ("all_cells", "said")},
    "host": {"Host": ("come", "lay", "go", "carried", "rooms", "turn", "leave", "move", "close_up", "inner")},
    "kinds": {"holds": None, "unlike": None},
    "notes": {"written": None, "read": None},
}


def trees():
    return [(path, ast.parse(path.read_text())) for path in FILES]


class Language(unittest.TestCase):
    def test_the_folder_holds_python_files_alone(self):
        for path in FILES:
            self.assertRegex(path.name, r"^[a-z0-9_]+\.py$")

    def test_characters_and_lengths(self):
        for path in FILES:
            text = path.read_bytes().decode("ascii")
            self.assertIsNone(re.search(r"[^\n -~]", text), path)
            self.assertLess(len(text.splitlines()), 400, path)
            self.assertLessEqual(max([len(row) for row in text.splitlines()]), 120, path)

    def test_words_that_do_not_occur(self):
        for path in FILES:
            words = re.findall(r"\w+", path.read_text())
            self.assertEqual([word for word in words if word in BARRED_WORDS], [], path)
            self.assertEqual([word for word in words for part in BARRED_PARTS if part in word], [], path)

    def test_functions_are_small(self):
        for path, tree in trees():
            for node in ast.walk(tree):
                if isinstance(node, ast.FunctionDef):
                    self.assertLessEqual(node.end_lineno - node.lineno + 1, 40, (path, node.name))

    def test_imports_are_of_the_package(self):
        for path, tree in trees():
            for node in ast.walk(tree):
                self.assertNotIsInstance(node, ast.Import, path)
                if isinstance(node, ast.ImportFrom):
                    self.assertEqual((node.level, node.module.split(".")[0]), (0, "guestworlds"), path)

    def test_statements_and_values_outside_the_subset(self):
        barred = (ast.Global, ast.AsyncFunctionDef, ast.Await, ast.Div)
        for path, tree in trees():
            for node in ast.walk(tree):
                self.assertNotIsInstance(node, barred, path)
                if isinstance(node, ast.Constant):
                    self.assertNotIsInstance(node.value, (float, complex), path)
                    self.assertNotIn("%", str(node.value), path)

    def test_module_level_only_defines(self):
        defines = (ast.ImportFrom, ast.FunctionDef, ast.ClassDef, ast.Assign)
        for path, tree in trees():
            for node in tree.body[1:]:
                self.assertIsInstance(node, defines, path)
            # The first is the file's docstring.
            self.assertIsInstance(tree.body[0], ast.Expr, path)

    def test_names_are_plain(self):
        for path, tree in trees():
            for node in ast.walk(tree):
                for name in (getattr(node, "id", ""), getattr(node, "arg", ""), getattr(node, "attr", "")):
                    if name != "__init__":
                        self.assertFalse((name or "").startswith("_"), (path, name))

    def test_builtins_that_may_be_used(self):
        for path, tree in trees():
            for node in ast.walk(tree):
                if isinstance(node, ast.Name) and hasattr(builtins, node.id):
                    self.assertIn(node.id, ALLOWED_BUILTINS, path)

    def test_no_name_is_a_method_and_an_attribute(self):
        methods, attributes = set(), set()
        for path, tree in trees():
            for owner in [node for node in ast.walk(tree) if isinstance(node, ast.ClassDef)]:
                methods.update(node.name for node in owner.body if isinstance(node, ast.FunctionDef))
            for node in ast.walk(tree):
                if isinstance(node, ast.Attribute) and isinstance(node.ctx, ast.Store):
                    attributes.add(node.attr)
        self.assertEqual(methods & attributes, set())

    def test_no_local_name_is_a_class_s_or_an_import_s(self):
        for path, tree in trees():
            bound = {alias.name for node in tree.body if isinstance(node, ast.ImportFrom) for alias in node.names}
            bound.update(node.name for node in tree.body if isinstance(node, ast.ClassDef))
            for node in ast.walk(tree):
                if isinstance(node, ast.arg):
                    self.assertNotIn(node.arg, bound, path)
                if isinstance(node, ast.Name) and isinstance(node.ctx, ast.Store):
                    self.assertNotIn(node.id, bound, path)

    def test_imports_go_one_way(self):
        imports = {path.stem: {node.module.split(".")[1] for node in tree.body if isinstance(node, ast.ImportFrom)}
                   for path, tree in trees()}
        done = set()
        while len(done) < len(imports):
            ready = [stem for stem in imports if stem not in done and imports[stem] <= done]
            self.assertNotEqual(ready, [])
            done.update(ready)

    def test_the_interface_is_defined_where_it_is_listed(self):
        found = {path.stem: {node.name: node for node in tree.body if hasattr(node, "name")} for path, tree in trees()}
        for stem, names in INTERFACE.items():
            for name, methods in names.items():
                self.assertIn(name, found[stem])
                if methods is not None:
                    own = [node.name for node in found[stem][name].body if isinstance(node, ast.FunctionDef)]
                    self.assertLessEqual(set(methods), set(own), name)
