"""The package keeps to the small part of Python that it is written in, as far as a walk over its files can see."""

import ast
import builtins
import re
import unittest
from pathlib import Path

PACKAGE = Path(__file__).resolve().parent.parent / "bendproof"
FILES = sorted(path for path in PACKAGE.rglob("*") if path.is_file() and "__pycache__" not in path.parts)

STATEMENTS = (ast.Assign, ast.AugAssign, ast.If, ast.While, ast.For, ast.Return, ast.Break, ast.Continue, ast.Pass,
              ast.Raise, ast.Try, ast.Expr, ast.FunctionDef, ast.ClassDef, ast.ImportFrom)
EXPRESSIONS = (ast.Constant, ast.List, ast.Tuple, ast.Dict, ast.Set, ast.BinOp, ast.UnaryOp, ast.BoolOp, ast.Compare,
               ast.IfExp, ast.Call, ast.Attribute, ast.Subscript, ast.Slice, ast.ListComp, ast.JoinedStr,
               ast.FormattedValue, ast.Lambda, ast.Name)
OWN_NAMES = set("""len range enumerate zip min max sum abs sorted reversed int str bool list tuple dict set frozenset
    isinstance ord repr any all divmod Exception ValueError TypeError KeyError IndexError LookupError ZeroDivisionError
    ArithmeticError OverflowError RuntimeError NotImplementedError AttributeError StopIteration""".split())
METHODS = set("""append clear copy count endswith extend find get index insert isalnum isalpha isdigit islower isspace
    isupper items join keys ljust lower lstrip partition pop remove replace reverse rfind rjust rpartition rsplit rstrip
    setdefault split splitlines startswith strip update upper values zfill bit_length""".split())
UNDERSCORED = ("__init__", "__eq__", "__repr__", "__str__", "__len__")
UNSAID = ("type typing typing_extensions enum Enum IntEnum StrEnum Flag IntFlag Generic Protocol ABC ABCMeta namedtuple "
          "NamedTuple TypedDict TYPE_CHECKING abstractmethod").split()
UNSAID_WITHIN = ("dataclass", "overload", "contextmanager")


def nodes(*kinds):
    """Each node of these kinds in the package, with its file's name."""
    return [(path.name, node) for path in FILES for node in ast.walk(ast.parse(path.read_text("utf-8")))
            if isinstance(node, kinds)]


def bound_names():
    """Each name that the package binds, with the file's name."""
    names = [(file, node.id) for file, node in nodes(ast.Name) if isinstance(node.ctx, ast.Store)]
    names += [(file, node.arg) for file, node in nodes(ast.arg)]
    names += [(file, node.name) for file, node in nodes(ast.FunctionDef, ast.ClassDef)]
    return names


def top_names(path):
    """Each name that a file defines at its top."""
    found = []
    for one in ast.parse(path.read_text("utf-8")).body:
        if isinstance(one, (ast.FunctionDef, ast.ClassDef)):
            found.append(one.name)
        if isinstance(one, ast.Assign):
            found.append(one.targets[0].id)
    return found


def called(node):
    """The name that is called, be it a function's or a method's, or none."""
    if not isinstance(node, ast.Call):
        return None
    return node.func.id if isinstance(node.func, ast.Name) else node.func.attr


class Language(unittest.TestCase):
    def test_files(self):
        self.assertIn(PACKAGE / "__init__.py", FILES)
        for path in FILES:
            self.assertRegex(path.name, r"\A(__init__|[a-z][a-z0-9_]*)\.py\Z")

    def test_sizes_and_signs(self):
        for path in FILES:
            text = path.read_text("utf-8")
            self.assertRegex(text, r"\A[ -~\n]*\Z", path)
            self.assertLessEqual(len(text.splitlines()), 400, path)
            self.assertLessEqual(max(len(row) for row in text.splitlines()), 120, path)
        for file, node in nodes(ast.FunctionDef):
            self.assertLessEqual(node.end_lineno - node.lineno + 1, 40, (file, node.name))

    def test_words_that_stand_nowhere(self):
        for path in FILES:
            text = path.read_text("utf-8")
            self.assertEqual(set(re.findall(r"\w+", text)) & set(UNSAID), set(), path)
            for word in UNSAID_WITHIN:
                self.assertNotIn(word, text, path)

    def test_statements_and_expressions(self):
        for file, node in nodes(ast.stmt):
            self.assertIsInstance(node, STATEMENTS, (file, node.lineno))
        for file, node in nodes(ast.expr):
            self.assertIsInstance(node, EXPRESSIONS, (file, node.lineno))
        for file, node in nodes(ast.Assign):
            self.assertEqual(len(node.targets), 1, (file, node.lineno))
        for file, node in nodes(ast.For, ast.While):
            self.assertEqual(node.orelse, [], (file, node.lineno))
        for file, node in nodes(ast.FunctionDef, ast.ClassDef):
            self.assertEqual(node.decorator_list, [], (file, node.lineno))
        for file, node in nodes(ast.arguments):
            self.assertEqual([node.vararg, node.kwarg, node.kwonlyargs, node.posonlyargs], [None, None, [], []], file)
        for file, node in nodes(ast.ListComp):
            self.assertEqual(len(node.generators), 1, (file, node.lineno))
            self.assertLessEqual(len(node.generators[0].ifs), 1, (file, node.lineno))

    def test_imports_are_the_packages_own(self):
        for file, node in nodes(ast.ImportFrom):
            defining = PACKAGE / (node.module.removeprefix("bendproof.") + ".py")
            self.assertTrue(node.level == 0 and node.module.startswith("bendproof."), (file, node.lineno))
            for alias in node.names:
                self.assertIn(alias.name, top_names(defining), (file, node.lineno))
                self.assertIsNone(alias.asname, (file, node.lineno))

    def test_no_two_files_draw_from_one_another(self):
        drawn = {path.stem: {node.module.removeprefix("bendproof.") for file, node in nodes(ast.ImportFrom)
                             if file == path.name} for path in FILES}
        while drawn:
            last = [stem for stem, modules in drawn.items() if not modules & set(drawn)]
            self.assertNotEqual(last, [], drawn)
            for stem in last:
                del drawn[stem]

    def test_names_at_the_top_of_a_file(self):
        for path in FILES:
            names = top_names(path)
            self.assertEqual(len(names), len(set(names)), path)
            body = ast.parse(path.read_text("utf-8")).body
            self.assertIsInstance(body[0], ast.Expr, path)
            for one in body[1:]:
                self.assertIsInstance(one, (ast.ImportFrom, ast.Assign, ast.FunctionDef, ast.ClassDef), (path, one.lineno))

    def test_locals_are_called_unlike_classes_and_imports(self):
        for path in FILES:
            tree = ast.parse(path.read_text("utf-8"))
            taken = {alias.name for node in ast.walk(tree) if isinstance(node, ast.ImportFrom) for alias in node.names}
            taken |= {node.name for node in ast.walk(tree) if isinstance(node, ast.ClassDef)}
            for part in [node for node in ast.walk(tree) if isinstance(node, (ast.FunctionDef, ast.Lambda))]:
                found = {node.arg for node in ast.walk(part) if isinstance(node, ast.arg)}
                found |= {node.id for node in ast.walk(part) if isinstance(node, ast.Name) and isinstance(node.ctx, ast.Store)}
                self.assertEqual(found & taken, set(), (path, part.lineno))

    def test_names(self):
        for file, name in bound_names():
            self.assertTrue(name in UNDERSCORED or not name.startswith("_"), (file, name))
            self.assertTrue(name in UNDERSCORED or not hasattr(builtins, name), (file, name))
        for file, node in nodes(ast.Name):
            if hasattr(builtins, node.id):
                self.assertIn(node.id, OWN_NAMES, (file, node.lineno))

    def test_methods(self):
        own = {one.name for _, node in nodes(ast.ClassDef) for one in node.body if isinstance(one, ast.FunctionDef)}
        for file, node in nodes(ast.Call):
            if isinstance(node.func, ast.Attribute):
                self.assertIn(node.func.attr, METHODS | own, (file, node.lineno))

    def test_methods_and_values_of_objects(self):
        methods = {one.name for _, node in nodes(ast.ClassDef) for one in node.body if isinstance(one, ast.FunctionDef)}
        values = {node.attr for _, node in nodes(ast.Attribute) if isinstance(node.ctx, ast.Store)}
        self.assertEqual(methods & values, set())
        pythons = {name for kind in (str, int, list, tuple, dict, set, frozenset, bytes) for name in dir(kind)}
        self.assertEqual((methods | values) & pythons - set(UNDERSCORED), set())

    def test_what_is_walked_is_walked_at_once(self):
        lazy = ("zip", "enumerate", "reversed", "range", "items", "keys", "values")
        takers = "list tuple dict sorted sum any all enumerate zip min max join".split()
        for path in FILES:
            parts = list(ast.walk(ast.parse(path.read_text("utf-8"))))
            walked = [node.iter for node in parts if isinstance(node, (ast.For, ast.comprehension))]
            walked += [part for node in parts if called(node) in takers for part in node.args[:1]]
            for node in parts:
                if called(node) in lazy and node not in walked:
                    self.fail((path, node.lineno))

    def test_sets_are_not_kept(self):
        for path in FILES:
            parts = list(ast.walk(ast.parse(path.read_text("utf-8"))))
            held = [part for node in parts if called(node) in ("sorted", "len") for part in node.args]
            held += [part for node in parts if isinstance(node, ast.Compare) for part in node.comparators]
            for node in parts:
                if called(node) in ("set", "frozenset") and node not in held:
                    self.fail((path, node.lineno))

    def test_keywords(self):
        allowed = {"sorted": ("key", "reverse"), "min": ("key", "default"), "max": ("key", "default"), "sum": ("start",),
                   "enumerate": ("start",), "zip": ("strict",)}
        for file, node in nodes(ast.Call):
            for keyword in node.keywords:
                self.assertIn(keyword.arg, allowed.get(called(node), ()), (file, node.lineno))

    def test_numbers_and_texts(self):
        for file, node in nodes(ast.BinOp):
            self.assertNotIsInstance(node.op, ast.Div, (file, node.lineno))
            if isinstance(node.op, ast.Pow):
                self.assertIn(getattr(node.right, "value", None), range(65), (file, node.lineno))
        for file, node in nodes(ast.Constant):
            self.assertIn(type(node.value), (int, str, bool, type(None)), (file, node.lineno))
            if isinstance(node.value, str):
                self.assertNotIn("%", node.value, (file, node.lineno))
        for file, node in nodes(ast.Compare):
            for sign, right in zip(node.ops, node.comparators):
                if isinstance(sign, (ast.Is, ast.IsNot)):
                    self.assertIn(getattr(right, "value", ""), (None, True, False), (file, node.lineno))

    def test_errors_that_are_not_taken(self):
        for file, node in nodes(ast.ExceptHandler):
            self.assertIsNotNone(node.type, (file, node.lineno))
            names = [one.id for one in ast.walk(node.type) if isinstance(one, ast.Name)]
            self.assertEqual(set(names) & {"Exception", "BaseException", "TypeError"}, set(), (file, node.lineno))


if __name__ == "__main__":
    unittest.main()
