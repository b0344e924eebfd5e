"""The rules of LANGUAGE.md that can be seen in a file's form, asked of every file of the package."""

import ast
import builtins
import pathlib
import re
import unittest

PACKAGE = pathlib.Path(__file__).resolve().parent.parent / "knowcards"

ERRORS = """Exception ValueError TypeError KeyError IndexError LookupError ZeroDivisionError ArithmeticError
    OverflowError RuntimeError NotImplementedError AttributeError StopIteration""".split()
# L8, without chr (L27).
OWN_NAMES = """len range enumerate zip min max sum abs sorted reversed int str bool list tuple dict set frozenset
    isinstance ord repr any all divmod""".split() + ERRORS
# L6 and L7; Expr and Constant are looked at more closely below.
NODES = """Module FunctionDef arguments arg ClassDef Return Assign AugAssign For While If Raise Try ExceptHandler
    ImportFrom alias Expr Pass Break Continue BoolOp And Or BinOp Add Sub Mult FloorDiv Mod Pow LShift RShift BitOr
    BitXor BitAnd UnaryOp Invert Not UAdd USub Lambda IfExp Dict Set ListComp comprehension Compare Eq NotEq Lt LtE
    Gt GtE Is IsNot In NotIn Call keyword JoinedStr FormattedValue Constant Attribute Subscript Name List Tuple
    Slice Load Store""".split()
# L5.
UNDERSCORED = "__init__ __eq__ __repr__ __str__ __len__".split()
# L25; a method of the program's own counts as well.
METHODS = """append clear copy count endswith extend find get index insert isalnum isalpha isdigit islower isspace
    isupper items join keys ljust lower lstrip partition pop remove replace reverse rfind rjust rpartition rsplit
    rstrip setdefault split splitlines startswith strip update upper values zfill bit_length""".split()
# L17.
WORDS = """type typing typing_extensions enum Enum IntEnum StrEnum Flag IntFlag Generic Protocol ABC ABCMeta
    namedtuple NamedTuple TypedDict TYPE_CHECKING abstractmethod""".split()
PARTS = "dataclass overload contextmanager".split()
# L26: what Python's own values have, but for the names that a value of an object may have all the same.
TAKEN = sorted({name for kind in (str, int, list, tuple, dict, set, bytes) for name in dir(kind)}
               - set("count index title find get join lower upper split strip copy add".split())) + ["args"]


def sources():
    return sorted(path for path in PACKAGE.iterdir() if path.suffix == ".py")


def module_name(path):
    return f"knowcards.{path.stem}"


def top_names(tree):
    """The names that a file binds at its top by its own, not by an import."""
    names = []
    for row in tree.body:
        if isinstance(row, (ast.FunctionDef, ast.ClassDef)):
            names.append(row.name)
        if isinstance(row, ast.Assign):
            names.append(row.targets[0].id)
    return names


def bound_names(tree):
    """Every name that a file binds somewhere."""
    names = []
    for node in ast.walk(tree):
        if isinstance(node, (ast.FunctionDef, ast.ClassDef)):
            names.append(node.name)
        if isinstance(node, ast.arg):
            names.append(node.arg)
        if isinstance(node, ast.alias):
            names.append(node.asname or node.name)
        if isinstance(node, ast.ExceptHandler) and node.name:
            names.append(node.name)
        if isinstance(node, ast.Name) and isinstance(node.ctx, ast.Store):
            names.append(node.id)
    return names


def classes_of(tree):
    return [row for row in tree.body if isinstance(row, ast.ClassDef)]


def values_of(tree):
    """The names of the values that a file gives to objects."""
    return [node.attr for node in ast.walk(tree) if isinstance(node, ast.Attribute) and isinstance(node.ctx, ast.Store)]


def imported_names(tree):
    return [alias.asname or alias.name for row in tree.body if isinstance(row, ast.ImportFrom) for alias in row.names]


def names_within(tree):
    """Every parameter and local of a file's functions."""
    found = []
    for node in ast.walk(tree):
        if isinstance(node, (ast.FunctionDef, ast.Lambda)):
            found.extend(one.arg for one in ast.walk(node) if isinstance(one, ast.arg))
            found.extend(one.id for one in ast.walk(node) if isinstance(one, ast.Name) and isinstance(one.ctx, ast.Store))
    return found


def is_set(node):
    return isinstance(node, ast.Set) or (isinstance(node, ast.Call) and isinstance(node.func, ast.Name)
                                         and node.func.id in ("set", "frozenset"))


def may_hold_a_set(node):
    """Whether a set may stand straight in this place: L24."""
    if isinstance(node, (ast.Compare, ast.BinOp)):
        return True
    return isinstance(node, ast.Call) and isinstance(node.func, ast.Name) and node.func.id in ("len", "sorted")


def drawn_from(tree):
    return [row.module for row in tree.body if isinstance(row, ast.ImportFrom)]


class LanguageTest(unittest.TestCase):
    def setUp(self):
        self.texts = dict((path, path.read_bytes().decode("ascii")) for path in sources())
        self.trees = dict((path, ast.parse(text)) for path, text in self.texts.items())

    def test_nothing_else_lies_in_the_package(self):
        self.assertIn("__init__.py", [path.name for path in sources()])
        for path in PACKAGE.iterdir():
            if path.name != "__pycache__":
                self.assertRegex(path.name, r"^(__init__|__main__|[a-z][a-z0-9_]*)\.py$")
                self.assertNotIn(path.stem, dir(builtins))

    def test_signs_and_sizes(self):
        for path, text in self.texts.items():
            self.assertRegex(text, r"\A[ -~\n]*\Z", path)
            rows = text.splitlines()
            self.assertLessEqual(len(rows), 400, path)
            self.assertLessEqual(max(len(row) for row in rows), 120, path)

    def test_functions_have_at_most_forty_lines(self):
        for path, tree in self.trees.items():
            for node in ast.walk(tree):
                if isinstance(node, ast.FunctionDef):
                    self.assertLessEqual(node.end_lineno - node.lineno + 1, 40, (path, node.name))

    def test_words_that_stand_nowhere(self):
        for path, text in self.texts.items():
            found = re.findall(r"\w+", text)
            self.assertEqual([word for word in found if word in WORDS], [], path)
            self.assertEqual([word for word in found if any(part in word for part in PARTS)], [], path)

    def test_the_top_of_a_file(self):
        for path, tree in self.trees.items():
            self.assertIsNotNone(ast.get_docstring(tree), path)
            for row in tree.body[1:]:
                self.assertIsInstance(row, (ast.ImportFrom, ast.FunctionDef, ast.ClassDef, ast.Assign), path)
            names = top_names(tree)
            self.assertEqual(len(names), len(set(names)), path)

    def test_only_the_forms_of_the_language(self):
        for path, tree in self.trees.items():
            for node in ast.walk(tree):
                where = (path, getattr(node, "lineno", 0))
                self.assertIn(type(node).__name__, NODES, where)
                self.check_form(node, where)
                if isinstance(node, ast.Expr) and node is not tree.body[0]:
                    self.assertIsInstance(node.value, ast.Call, where)

    def check_form(self, node, where):
        if isinstance(node, ast.Constant):
            self.assertIsInstance(node.value, (int, str, type(None)), where)
            self.assertNotIn("%", str(node.value), where)
        if isinstance(node, ast.arguments):
            self.assertEqual((node.vararg, node.kwarg, node.kwonlyargs, node.posonlyargs), (None, None, [], []), where)
        if isinstance(node, (ast.FunctionDef, ast.ClassDef)):
            self.assertEqual(node.decorator_list, [], where)
        if isinstance(node, ast.Assign):
            self.assertEqual(len(node.targets), 1, where)
        if isinstance(node, (ast.For, ast.While)):
            self.assertEqual(node.orelse, [], where)
        if isinstance(node, ast.ListComp):
            self.assertEqual(len(node.generators), 1, where)
            self.assertLessEqual(len(node.generators[0].ifs), 1, where)
        if isinstance(node, ast.Compare) and any(isinstance(sign, (ast.Is, ast.IsNot)) for sign in node.ops):
            beside = [node.left] + node.comparators
            self.assertTrue(any(isinstance(one, ast.Constant) for one in beside), where)

    def test_imports(self):
        for path, tree in self.trees.items():
            for row in [node for node in ast.walk(tree) if isinstance(node, ast.ImportFrom)]:
                self.assertIn(row, tree.body, path)
                self.assertEqual(row.level, 0, path)
                source = PACKAGE / (row.module.removeprefix("knowcards.") + ".py")
                self.assertEqual(module_name(source), row.module, path)
                for alias in row.names:
                    self.assertIn(alias.name, top_names(self.trees[source]), path)

    def test_no_two_files_draw_from_one_another(self):
        left = dict((module_name(path), drawn_from(tree)) for path, tree in self.trees.items())
        while left:
            free = [name for name in left if not any(other in left for other in left[name])]
            self.assertNotEqual(free, [], left)
            left = dict((name, left[name]) for name in left if name not in free)

    def test_names(self):
        for path, tree in self.trees.items():
            bound = bound_names(tree)
            for name in bound:
                if name not in UNDERSCORED:
                    self.assertRegex(name, r"^[A-Za-z][A-Za-z0-9_]*$", path)
                self.assertNotIn(name, dir(builtins), path)
            for node in ast.walk(tree):
                if isinstance(node, ast.Name) and isinstance(node.ctx, ast.Load):
                    self.assertIn(node.id, bound + OWN_NAMES, (path, node.lineno))

    def test_no_parameter_or_local_is_called_like_a_class_or_an_import(self):
        for path, tree in self.trees.items():
            taken = imported_names(tree) + [row.name for row in classes_of(tree)]
            self.assertEqual([name for name in names_within(tree) if name in taken], [], path)

    def test_classes(self):
        methods = []
        for path, tree in self.trees.items():
            for row in classes_of(tree):
                self.assertLessEqual(len(row.bases), 1, path)
                own = [part.name for part in row.body if isinstance(part, ast.FunctionDef)]
                self.assertEqual(len(own), len(set(own)), path)
                self.assertTrue(all(isinstance(part, (ast.FunctionDef, ast.Pass)) for part in row.body), path)
                methods.extend(own)
        for path, tree in self.trees.items():
            self.assertEqual([name for name in values_of(tree) if name in methods + TAKEN], [], path)

    def test_sets_are_not_kept(self):
        for path, tree in self.trees.items():
            for node in ast.walk(tree):
                for child in ast.iter_child_nodes(node):
                    if is_set(child):
                        self.assertTrue(may_hold_a_set(node), (path, child.lineno))

    def test_methods(self):
        own = [name for tree in self.trees.values() for name in bound_names(tree)]
        for path, tree in self.trees.items():
            for node in ast.walk(tree):
                if isinstance(node, ast.Call) and isinstance(node.func, ast.Attribute):
                    self.assertIn(node.func.attr, METHODS + UNDERSCORED + own, (path, node.lineno))


if __name__ == "__main__":
    unittest.main()
