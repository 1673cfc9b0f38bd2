"""The form of the package's files, as far as the rules of LANGUAGE.md can be seen by a machine."""

import ast
import builtins
import pathlib
import re
import unittest

PACKAGE = pathlib.Path(__file__).resolve().parent.parent / "rowsources"
FILES = sorted(PACKAGE.rglob("*.py"))

OWN_NAMES = set(
    "len range enumerate zip min max sum abs sorted reversed int str bool list tuple dict set frozenset isinstance ord "
    "repr any all divmod Exception ValueError TypeError KeyError IndexError LookupError ZeroDivisionError "
    "ArithmeticError OverflowError RuntimeError NotImplementedError AttributeError StopIteration".split())

METHODS = set(
    "append clear copy count endswith extend find get index insert isalnum isalpha isdigit islower isspace isupper "
    "items join keys ljust lower lstrip partition pop remove replace reverse rfind rjust rpartition rsplit rstrip "
    "setdefault split splitlines startswith strip update upper values zfill bit_length".split())

NO_WORDS = set(
    "type typing typing_extensions enum Enum IntEnum StrEnum Flag IntFlag Generic Protocol ABC ABCMeta namedtuple "
    "NamedTuple TypedDict TYPE_CHECKING abstractmethod".split())

NO_NAMES = set(
    "register mro elements open input version_info with_traceback add_note attrgetter breakpoint builtins compile "
    "copyright credits delattr dir eval exec exit gc getattr globals hasattr help id importlib license locals "
    "methodcaller os quit setattr super type vars sys chr print".split())

STATEMENTS = (ast.Assign, ast.AugAssign, ast.If, ast.While, ast.For, ast.Return, ast.Break, ast.Continue, ast.Pass,
              ast.Raise, ast.Try, ast.Expr, ast.FunctionDef, ast.ClassDef, ast.ImportFrom)

NO_EXPRESSIONS = (ast.SetComp, ast.DictComp, ast.GeneratorExp, ast.NamedExpr, ast.Starred, ast.Await, ast.Yield,
                  ast.YieldFrom, ast.Div, ast.MatMult)


def tree_of(path):
    return ast.parse(path.read_text(encoding="utf-8"))


def bound_names(tree):
    """The names that a file's functions and comprehensions give values to, parameters among them."""
    names = {node.arg for node in ast.walk(tree) if isinstance(node, ast.arg)}
    return names | {node.id for node in ast.walk(tree) if isinstance(node, ast.Name) and isinstance(node.ctx, ast.Store)}


def top_names(tree):
    names = []
    for node in tree.body:
        if isinstance(node, (ast.FunctionDef, ast.ClassDef)):
            names.append(node.name)
        elif isinstance(node, ast.Assign):
            names.append(node.targets[0].id)
    return names


def imports(tree):
    return [node for node in ast.walk(tree) if isinstance(node, (ast.Import, ast.ImportFrom))]


class Files(unittest.TestCase):
    def test_names_of_files(self):
        self.assertTrue((PACKAGE / "__init__.py").is_file())
        for path in PACKAGE.rglob("*"):
            if "__pycache__" in path.parts:
                continue
            self.assertRegex(path.name, r"\A(__init__|[a-z][a-z0-9_]*)\.py\Z")
            self.assertFalse(hasattr(builtins, path.stem) and path.stem != "__init__", path.name)

    def test_size_and_signs(self):
        for path in FILES:
            whole = path.read_text(encoding="utf-8")
            self.assertRegex(whole, r"\A[ -~\n]*\Z", path.name)
            rows = whole.split("\n")
            self.assertLessEqual(len(rows), 401, path.name)
            self.assertLessEqual(max(len(row) for row in rows), 120, path.name)
            for node in ast.walk(tree_of(path)):
                if isinstance(node, ast.FunctionDef):
                    self.assertLessEqual(node.end_lineno - node.lineno + 1, 40, (path.name, node.name))

    def test_words_that_stand_nowhere(self):
        for path in FILES:
            whole = path.read_text(encoding="utf-8")
            self.assertEqual(NO_WORDS & set(re.findall(r"\w+", whole)), set(), path.name)
            self.assertIsNone(re.search("dataclass|overload|contextmanager", whole), path.name)


class Imports(unittest.TestCase):
    def test_own_names_from_the_file_that_defines_them(self):
        for path in FILES:
            for node in imports(tree_of(path)):
                self.assertIsInstance(node, ast.ImportFrom, path.name)
                self.assertEqual(node.level, 0, path.name)
                self.assertTrue(node.module.startswith("rowsources."), path.name)
                defined = top_names(tree_of(PACKAGE / (node.module.split(".")[1] + ".py")))
                for alias in node.names:
                    self.assertIn(alias.name, defined, path.name)

    def test_no_two_files_draw_from_one_another(self):
        drawn = {path.stem: {node.module.split(".")[1] for node in imports(tree_of(path))} for path in FILES}
        self.assertEqual(drawn.pop("__init__"), set())
        while drawn:
            free = [name for name in drawn if not drawn[name] & set(drawn)]
            self.assertTrue(free, "files draw from one another: " + " ".join(drawn))
            for name in free:
                drawn.pop(name)


class Code(unittest.TestCase):
    def nodes(self):
        for path in FILES:
            for node in ast.walk(tree_of(path)):
                yield f"{path.name}:{getattr(node, 'lineno', 0)}", node

    def test_top_of_a_file(self):
        for path in FILES:
            tree = tree_of(path)
            self.assertTrue(ast.get_docstring(tree), path.name)
            for node in tree.body[1:]:
                self.assertIsInstance(node, (ast.ImportFrom, ast.FunctionDef, ast.ClassDef, ast.Assign), path.name)
                if isinstance(node, ast.Assign):
                    ast.literal_eval(node.value)
            names = top_names(tree) + [alias.name for node in imports(tree) for alias in node.names]
            self.assertEqual(len(names), len(set(names)), path.name)

    def test_statements(self):
        for place, node in self.nodes():
            if isinstance(node, ast.stmt):
                self.assertIsInstance(node, STATEMENTS, place)
            if isinstance(node, ast.Assign):
                self.assertEqual(len(node.targets), 1, place)
            if isinstance(node, (ast.For, ast.While)):
                self.assertEqual(node.orelse, [], place)
            if isinstance(node, ast.Try):
                self.assertEqual(node.finalbody, [], place)

    def test_functions_and_classes(self):
        for place, node in self.nodes():
            if isinstance(node, (ast.FunctionDef, ast.ClassDef)):
                self.assertEqual(node.decorator_list, [], place)
            if isinstance(node, ast.arguments):
                self.assertEqual((node.vararg, node.kwarg, node.kwonlyargs, node.posonlyargs), (None, None, [], []), place)
            if isinstance(node, ast.ClassDef):
                for part in node.body:
                    self.assertTrue(isinstance(part, ast.FunctionDef) or isinstance(part.value, ast.Constant), place)

    def test_expressions(self):
        for place, node in self.nodes():
            self.assertNotIsInstance(node, NO_EXPRESSIONS, place)
            if isinstance(node, ast.Constant):
                self.assertIn(node.value.__class__, (int, str, bool, None.__class__), place)
                self.assertFalse(isinstance(node.value, str) and "%" in node.value, place)
            if isinstance(node, ast.ListComp):
                self.assertEqual(len(node.generators), 1, place)
                self.assertLessEqual(len(node.generators[0].ifs), 1, place)
            if isinstance(node, ast.Compare):
                for operator, right in zip(node.ops, node.comparators):
                    if isinstance(operator, (ast.Is, ast.IsNot)):
                        self.assertIsInstance(right, ast.Constant, place)

    def test_names(self):
        for path in FILES:
            tree = tree_of(path)
            bound = bound_names(tree)
            drawn = {alias.name for node in imports(tree) for alias in node.names}
            classes = {node.name for node in tree.body if isinstance(node, ast.ClassDef)}
            self.assertEqual(bound & (drawn | classes | set(dir(builtins))), set(), path.name)
            for node in ast.walk(tree):
                if isinstance(node, ast.Name):
                    self.assertRegex(node.id, r"\A[A-Za-z][A-Za-z0-9_]*\Z", path.name)
                    self.assertNotIn(node.id, NO_NAMES, path.name)
                    self.assertIn(node.id, OWN_NAMES | bound | drawn | set(top_names(tree)), path.name)

    def test_methods(self):
        for place, node in self.nodes():
            if isinstance(node, ast.Call) and isinstance(node.func, ast.Attribute):
                self.assertIn(node.func.attr, METHODS, place)
            if isinstance(node, ast.Attribute) and isinstance(node.ctx, ast.Store):
                self.assertFalse(any(hasattr(kind, node.attr) for kind in (str, int, list, dict, set, bytes)), place)


if __name__ == "__main__":
    unittest.main()
