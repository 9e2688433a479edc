"""Checks of the form of the package's files: the rules that are easily broken unseen."""

import ast
import builtins
import io
import keyword
import re
import tokenize
import unittest
import warnings
from pathlib import Path

ROOT = Path(__file__).resolve().parent.parent
PACKAGE = ROOT / "fromparts"
USABLE = set("""len range enumerate zip min max sum abs sorted reversed int str bool bytes list tuple dict set
    isinstance ord repr any all divmod iter next map Exception ValueError TypeError KeyError IndexError LookupError
    ZeroDivisionError ArithmeticError OverflowError RuntimeError NotImplementedError AttributeError StopIteration
    NotImplemented property classmethod staticmethod super""".split())
BARRED = set("""typing typing_extensions enum Enum IntEnum StrEnum Flag IntFlag Generic Protocol ABC ABCMeta
    namedtuple NamedTuple TypedDict TYPE_CHECKING abstractmethod""".split())
UNUSED = set("register mro elements open input law version_info with_traceback add_note".split())
LIBRARY = {"heapq", "math", "itertools"}
METHODS = set("""__init__ __eq__ __repr__ __str__ __len__ __enter__ __exit__ __call__ __iter__ __lt__ __le__ __gt__
    __ge__ __ne__ __neg__ __pos__ __invert__ __abs__ __bool__ __contains__ __getitem__ __setitem__""".split())
ARITHMETIC = re.compile("__[ri]?(add|sub|mul|floordiv|mod|pow|and|or|xor|lshift|rshift)__")


def files():
    return sorted(path for path in PACKAGE.rglob("*") if path.is_file() and "__pycache__" not in path.parts)


def each_tree():
    return [(path.relative_to(ROOT), ast.parse(path.read_text())) for path in files()]


def each_node(kinds):
    return [(path, node) for path, tree in each_tree() for node in ast.walk(tree) if isinstance(node, kinds)]


def bound_names(tree):
    """The names that a file gives a meaning to, as far as no attributes."""
    names = []
    for node in ast.walk(tree):
        if isinstance(node, (ast.FunctionDef, ast.ClassDef)):
            names.append(node.name)
        elif isinstance(node, ast.arg):
            names.append(node.arg)
        elif isinstance(node, ast.Name) and isinstance(node.ctx, ast.Store):
            names.append(node.id)
        elif isinstance(node, ast.ImportFrom):
            names.extend([part.asname or part.name for part in node.names])
        elif isinstance(node, ast.ExceptHandler) and node.name:
            names.append(node.name)
    return names


class Files(unittest.TestCase):
    def test_names(self):
        self.assertTrue(files())
        for path in files():
            self.assertRegex(path.name, r"^[a-z_][a-z0-9_]*\.py$")
            self.assertTrue((path.parent / "__init__.py").is_file(), path)

    def test_lines_and_characters(self):
        for path in files():
            text = path.read_text()
            self.assertLess(len(text.splitlines()), 400, path)
            self.assertEqual([line for line in text.splitlines() if len(line) > 120], [], path)
            self.assertEqual([one for one in text if one != "\n" and not " " <= one <= "~"], [], path)

    def test_no_warnings(self):
        with warnings.catch_warnings():
            warnings.simplefilter("error")
            for path in files():
                compile(path.read_text(), str(path), "exec")

    def test_length_of_functions(self):
        for path, node in each_node(ast.FunctionDef):
            self.assertLessEqual(node.end_lineno - node.lineno + 1, 40, (path, node.name))


class Names(unittest.TestCase):
    def test_imports(self):
        for path, node in each_node((ast.Import, ast.ImportFrom)):
            self.assertIsInstance(node, ast.ImportFrom, path)
            self.assertEqual(node.level, 0, path)
            if node.module in LIBRARY:
                continue
            source = ROOT.joinpath(*node.module.split(".")).with_suffix(".py")
            self.assertTrue(source.is_file(), (path, node.module))
            here = [one for one in ast.parse(source.read_text()).body if not isinstance(one, ast.ImportFrom)]
            own = [one.name for one in here if isinstance(one, (ast.FunctionDef, ast.ClassDef))]
            own += [one.targets[0].id for one in here if isinstance(one, ast.Assign)]
            for part in node.names:
                self.assertIn(part.name, own, path)

    def test_builtins(self):
        every = set(dir(builtins)) - {"__name__"}
        for path, tree in each_tree():
            own = set(bound_names(tree))
            self.assertEqual(own & (every - METHODS), set(), path)
            read = {node.id for node in ast.walk(tree) if isinstance(node, ast.Name)} & every
            self.assertEqual(read - USABLE, set(), path)

    def test_barred_words(self):
        for path in files():
            for token in tokenize.generate_tokens(io.StringIO(path.read_text()).readline):
                if token.type == tokenize.NAME:
                    self.assertNotIn(token.string, BARRED | UNUSED | {"type", "global", "async", "await"}, path)
            for word in ["(type)", "Meta", "metaclass=", "dataclass", "overload", "contextmanager", "_wall"]:
                self.assertNotIn(word, path.read_text(), path)

    def test_no_underscores_in_front(self):
        for path, tree in each_tree():
            for name in bound_names(tree):
                if name.startswith("__"):
                    self.assertTrue(name in METHODS or ARITHMETIC.fullmatch(name), (path, name))
                self.assertFalse(keyword.issoftkeyword(name) and name != "_", (path, name))


class Code(unittest.TestCase):
    def test_no_floats_and_no_signs_that_are_barred(self):
        for path, node in each_node((ast.Constant, ast.Div, ast.JoinedStr)):
            self.assertNotIsInstance(node, ast.Div, path)
            value = getattr(node, "value", None)
            self.assertNotIsInstance(value, (float, complex), path)
            if isinstance(value, str):
                self.assertNotIn("%", value, path)

    def test_module_level(self):
        for path, tree in each_tree():
            for at, node in enumerate(tree.body):
                if isinstance(node, ast.Expr):
                    self.assertEqual((at, isinstance(node.value, ast.Constant)), (0, True), path)
                elif isinstance(node, ast.Assign):
                    self.assertEqual([one.__class__ for one in node.targets], [ast.Name], path)
                else:
                    self.assertIsInstance(node, (ast.ImportFrom, ast.FunctionDef, ast.ClassDef), path)

    def test_decorators(self):
        for path, node in each_node((ast.FunctionDef, ast.ClassDef)):
            for one in node.decorator_list:
                text = ast.unparse(one)
                self.assertTrue(text in ["property", "classmethod", "staticmethod"] or text.endswith(".setter"), path)

    def test_handlers_name_own_errors(self):
        own = [node.name for _, node in each_node(ast.ClassDef)]
        for path, node in each_node(ast.ExceptHandler):
            self.assertIsNotNone(node.type, path)
            named = node.type.elts if isinstance(node.type, ast.Tuple) else [node.type]
            for one in named:
                self.assertIn(one.id, own + ["KeyError", "ZeroDivisionError", "ValueError", "LookupError",
                                             "IndexError"], path)

    def test_no_generator_expressions_beside_equality(self):
        self.assertEqual([path for path, _ in each_node(ast.GeneratorExp)], [])

    def test_classes_with_indices_tell_how_they_are_iterated(self):
        for path, node in each_node(ast.ClassDef):
            own = [one.name for one in node.body if isinstance(one, ast.FunctionDef)]
            if "__getitem__" in own:
                self.assertIn("__iter__", own, (path, node.name))


if __name__ == "__main__":
    unittest.main()
