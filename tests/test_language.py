"""The form of the package's files: what of LANGUAGE.md can be read off them one by one."""

import ast
import builtins
import pathlib
import re
import unittest

PACKAGE = pathlib.Path(__file__).resolve().parent.parent / "strongboxes"
FILES = sorted(path for path in PACKAGE.rglob("*") if "__pycache__" not in path.parts)
TREES = {path.stem: ast.parse(path.read_text()) for path in FILES if path.suffix == ".py"}

STATEMENTS = (ast.FunctionDef, ast.ClassDef, ast.Assign, ast.AugAssign, ast.If, ast.While, ast.For, ast.Return,
              ast.Break, ast.Continue, ast.Pass, ast.Raise, ast.Try, ast.Expr, ast.ImportFrom)
EXPRESSIONS = (ast.Constant, ast.List, ast.Tuple, ast.Dict, ast.BinOp, ast.UnaryOp, ast.BoolOp, ast.Compare,
               ast.IfExp, ast.Call, ast.Attribute, ast.Subscript, ast.Slice, ast.ListComp, ast.JoinedStr,
               ast.FormattedValue, ast.Name, ast.Lambda)
OWN_NAMES = set("""len range enumerate zip min max sum abs sorted reversed int str bool list tuple dict set frozenset
    isinstance ord repr any all divmod Exception ValueError TypeError KeyError IndexError LookupError
    ZeroDivisionError ArithmeticError OverflowError RuntimeError NotImplementedError AttributeError
    StopIteration""".split())
METHODS = set("""append clear copy count endswith extend find get index insert isalnum isalpha isdigit islower isspace
    isupper items join keys ljust lower lstrip partition pop remove replace reverse rfind rjust rpartition rsplit
    rstrip setdefault split splitlines startswith strip update upper values zfill bit_length""".split())
UNDERSCORED = set("__init__ __eq__ __repr__ __str__ __len__".split())
NO_WORDS = re.compile(r"\b(type|typing|typing_extensions|enum|Enum|IntEnum|StrEnum|Flag|IntFlag|Generic|Protocol|ABC"
                      r"|ABCMeta|namedtuple|NamedTuple|TypedDict|TYPE_CHECKING|abstractmethod)\b"
                      r"|dataclass|overload|contextmanager")


def nodes(kinds):
    """The file and each node of these kinds in the package."""
    return [(name, node) for name, tree in TREES.items() for node in ast.walk(tree) if isinstance(node, kinds)]


def bound_names(tree):
    """Every name that a file binds, wherever it does."""
    names = set()
    for node in ast.walk(tree):
        if isinstance(node, (ast.FunctionDef, ast.ClassDef)):
            names.add(node.name)
        elif isinstance(node, ast.arg):
            names.add(node.arg)
        elif isinstance(node, ast.Name) and isinstance(node.ctx, ast.Store):
            names.add(node.id)
        elif isinstance(node, ast.alias):
            names.add(node.asname or node.name)
        elif isinstance(node, ast.ExceptHandler) and node.name:
            names.add(node.name)
    return names


def top_names(tree):
    """The names that a file defines at its top, as often as it does."""
    names = []
    for node in tree.body:
        if isinstance(node, (ast.FunctionDef, ast.ClassDef)):
            names.append(node.name)
        elif isinstance(node, ast.Assign):
            names.extend(target.id for target in node.targets)
    return names


class FilesTest(unittest.TestCase):
    def test_only_python_files_of_plain_names(self):
        self.assertIn("__init__", TREES)
        for path in FILES:
            self.assertRegex(path.name, r"^(__init__|[a-z][a-z0-9_]*)\.py$")
            self.assertNotIn(path.stem, dir(builtins))

    def test_sizes_and_signs(self):
        for path in FILES:
            lines = path.read_text().split("\n")
            self.assertLessEqual(len(lines), 401, path)
            for line in lines:
                self.assertRegex(line, r"^[ -~]{0,120}$", path)
                self.assertIsNone(NO_WORDS.search(line), (path, line))
        for name, node in nodes(ast.FunctionDef):
            self.assertLessEqual(node.end_lineno - node.lineno + 1, 40, (name, node.name))


class StatementsTest(unittest.TestCase):
    def test_kinds(self):
        for name, node in nodes((ast.stmt, ast.expr)):
            self.assertIsInstance(node, STATEMENTS + EXPRESSIONS, (name, node.lineno))

    def test_sets_are_asked_on_the_spot(self):
        kept = {id(part) for _, node in nodes(ast.Call) if getattr(node.func, "id", "") in ("sorted", "len")
                for part in node.args}
        kept |= {id(part) for _, node in nodes(ast.Compare) for part in [node.left] + node.comparators}
        kept |= {id(part) for _, node in nodes(ast.BinOp) if id(node) in kept for part in (node.left, node.right)}
        for name, node in nodes(ast.Call):
            if getattr(node.func, "id", "") in ("set", "frozenset"):
                self.assertIn(id(node), kept, (name, node.lineno))

    def test_python_own_errors_are_not_taken(self):
        for name, node in nodes(ast.ExceptHandler):
            self.assertNotIn(getattr(node.type, "id", None), (None, "Exception", "TypeError", "ValueError"), name)

    def test_assignments_have_one_target(self):
        for name, node in nodes(ast.Assign):
            self.assertEqual(len(node.targets), 1, (name, node.lineno))
            self.assertNotIsInstance(node.targets[0], (ast.Tuple, ast.List), (name, node.lineno))

    def test_loops_and_tries(self):
        for name, node in nodes((ast.For, ast.While)):
            self.assertEqual(node.orelse, [], (name, node.lineno))
        for name, node in nodes(ast.Try):
            self.assertEqual(node.finalbody, [], (name, node.lineno))
        for name, node in nodes(ast.ListComp):
            self.assertEqual(len(node.generators), 1, (name, node.lineno))
            self.assertLessEqual(len(node.generators[0].ifs), 1, (name, node.lineno))

    def test_values(self):
        for name, node in nodes(ast.Constant):
            self.assertIsInstance(node.value, (int, str, type(None)), (name, node.lineno))
            self.assertNotIn("%", str(node.value), (name, node.lineno))
        for name, node in nodes(ast.BinOp):
            self.assertNotIsInstance(node.op, (ast.Div, ast.MatMult), (name, node.lineno))
        for name, node in nodes(ast.FormattedValue):
            self.assertIsInstance(node.value, ast.Name, (name, node.lineno))
            self.assertIsNone(node.format_spec, (name, node.lineno))
        for name, node in nodes(ast.Compare):
            for operation, right in zip(node.ops, node.comparators):
                if isinstance(operation, (ast.Is, ast.IsNot)):
                    self.assertIn(getattr(right, "value", "a name"), (None, True, False), (name, node.lineno))


class DefsTest(unittest.TestCase):
    def test_functions(self):
        for name, node in nodes((ast.FunctionDef, ast.Lambda)):
            self.assertEqual(getattr(node, "decorator_list", []), [], (name, node.lineno))
            arguments = node.args
            self.assertIsNone(arguments.vararg or arguments.kwarg, (name, node.lineno))
            self.assertEqual(arguments.kwonlyargs + arguments.posonlyargs, [], (name, node.lineno))

    def test_classes(self):
        for name, node in nodes(ast.ClassDef):
            self.assertEqual(node.decorator_list + node.keywords, [], (name, node.name))
            self.assertLessEqual(len(node.bases), 1, (name, node.name))
            for part in node.body:
                docstring = isinstance(part, ast.Expr) and isinstance(part.value, ast.Constant)
                self.assertTrue(docstring or isinstance(part, ast.FunctionDef), (name, node.name))

    def test_tops(self):
        for name, tree in TREES.items():
            for number, node in enumerate(tree.body):
                docstring = number == 0 and isinstance(node, ast.Expr) and isinstance(node.value, ast.Constant)
                kinds = (ast.ImportFrom, ast.FunctionDef, ast.ClassDef, ast.Assign)
                self.assertTrue(docstring or isinstance(node, kinds), (name, node.lineno))
            names = top_names(tree)
            self.assertEqual(len(names), len(set(names)), name)


class NamesTest(unittest.TestCase):
    def test_plain_and_none_of_pythons_own(self):
        for file, tree in TREES.items():
            for name in bound_names(tree) - UNDERSCORED:
                self.assertRegex(name, r"^[A-Za-z][A-Za-z0-9_]*$", file)
                self.assertNotIn(name, dir(builtins), file)

    def test_no_local_is_called_like_an_import_or_a_class(self):
        for file, tree in TREES.items():
            taken = {node.name for node in tree.body if isinstance(node, ast.ClassDef)}
            for node in tree.body:
                if isinstance(node, ast.ImportFrom):
                    taken |= {alias.asname or alias.name for alias in node.names}
            for node in ast.walk(tree):
                if isinstance(node, ast.arg):
                    self.assertNotIn(node.arg, taken, (file, node.lineno))
                elif isinstance(node, ast.Name) and isinstance(node.ctx, ast.Store):
                    self.assertNotIn(node.id, taken, (file, node.lineno))
                elif isinstance(node, ast.FunctionDef):
                    self.assertNotIn(node.name, taken, (file, node.lineno))

    def test_no_method_is_called_like_a_value(self):
        methods = {part.name for _, node in nodes(ast.ClassDef) for part in node.body
                   if isinstance(part, ast.FunctionDef)}
        values = {node.attr for _, node in nodes(ast.Attribute) if isinstance(node.ctx, ast.Store)}
        self.assertEqual(methods & values, set())
        own = set().union(*(dir(kind) for kind in (str, int, list, dict, set, bytes, tuple)))
        self.assertEqual((methods | values) & own - UNDERSCORED, set())

    def test_of_pythons_own_only_those_listed(self):
        known = {file: bound_names(tree) | OWN_NAMES for file, tree in TREES.items()}
        for file, node in nodes(ast.Name):
            self.assertIn(node.id, known[file], (file, node.lineno))

    def test_methods(self):
        own = {node.name for _, node in nodes(ast.FunctionDef)}
        for file, node in nodes(ast.Call):
            if isinstance(node.func, ast.Attribute):
                self.assertIn(node.func.attr, own | METHODS, (file, node.lineno))


class ImportsTest(unittest.TestCase):
    def test_from_the_files_that_define_the_names(self):
        for file, node in nodes(ast.ImportFrom):
            self.assertEqual(node.level, 0, (file, node.lineno))
            package, _, source = node.module.partition(".")
            self.assertEqual(package, "strongboxes", (file, node.lineno))
            for name in node.names:
                self.assertIn(name.name, top_names(TREES[source]), (file, node.lineno))

    def test_no_two_files_draw_from_one_another(self):
        draws = {name: set() for name in TREES}
        for file, node in nodes(ast.ImportFrom):
            draws[file].add(node.module.partition(".")[2])
        while draws:
            free = [name for name in draws if not draws[name] & set(draws)]
            self.assertTrue(free, f"a ring among {sorted(draws)}")
            for name in free:
                del draws[name]


if __name__ == "__main__":
    unittest.main()
