"""Checks of the form of the package's files: the rules that are easily broken unseen."""

import ast
import builtins
import io
import keyword
import re
import tokenize
import unittest
import warnings
from functools import lru_cache
from pathlib import Path

ROOT = Path(__file__).resolve().parent.parent
PACKAGE = ROOT / "fromparts"
USABLE = set("""len range enumerate zip min max sum abs sorted reversed int str bool bytes list tuple dict set
    isinstance ord repr any all divmod iter next map Exception ValueError TypeError KeyError IndexError LookupError
    ZeroDivisionError ArithmeticError OverflowError RuntimeError NotImplementedError AttributeError StopIteration
    NotImplemented property classmethod staticmethod super""".split())
BARRED = set("""typing typing_extensions enum Enum IntEnum StrEnum Flag IntFlag Generic Protocol ABC ABCMeta
    namedtuple NamedTuple TypedDict TYPE_CHECKING abstractmethod""".split())
UNUSED = set("register mro elements open input law version_info with_traceback add_note".split())
LIBRARY = {"heapq", "math", "itertools"}
METHODS = set("""__init__ __eq__ __repr__ __str__ __len__ __enter__ __exit__ __call__ __iter__ __lt__ __le__ __gt__
    __ge__ __ne__ __neg__ __pos__ __invert__ __abs__ __bool__ __contains__ __getitem__ __setitem__""".split())
# Methods may have these names of methods of strings, lists and dicts.
LIKE_BUILTINS = {"upper", "remove", "count", "index", "find"}
ARITHMETIC = re.compile("__[ri]?(add|sub|mul|floordiv|mod|pow|and|or|xor|lshift|rshift)__")


def files():
    return sorted(path for path in PACKAGE.rglob("*") if path.is_file() and "__pycache__" not in path.parts)


@lru_cache(maxsize=None)
def each_tree():
    return [(path.relative_to(ROOT), ast.parse(path.read_text())) for path in files()]


@lru_cache(maxsize=None)
def each_node(kinds):
    return [(path, node) for path, tree in each_tree() for node in ast.walk(tree) if isinstance(node, kinds)]


def bound_names(tree):
    """The names that a file gives a meaning to, as far as no attributes."""
    names = []
    for node in ast.walk(tree):
        if isinstance(node, (ast.FunctionDef, ast.ClassDef)):
            names.append(node.name)
        elif isinstance(node, ast.arg):
            names.append(node.arg)
        elif isinstance(node, ast.Name) and isinstance(node.ctx, ast.Store):
            names.append(node.id)
        elif isinstance(node, ast.ImportFrom):
            names.extend([part.asname or part.name for part in node.names])
        elif isinstance(node, ast.ExceptHandler) and node.name:
            names.append(node.name)
    return names


class Files(unittest.TestCase):
    def test_names(self):
        self.assertTrue(files())
        for path in files():
            self.assertRegex(path.name, r"^[a-z_][a-z0-9_]*\.py$")
            self.assertTrue((path.parent / "__init__.py").is_file(), path)

    def test_lines_and_characters(self):
        for path in files():
            text = path.read_text()
            self.assertLess(len(text.splitlines()), 400, path)
            self.assertEqual([line for line in text.splitlines() if len(line) > 120], [], path)
            self.assertEqual([one for one in text if one != "\n" and not " " <= one <= "~"], [], path)

    def test_no_warnings(self):
        with warnings.catch_warnings():
            warnings.simplefilter("error")
            for path in files():
                compile(path.read_text(), str(path), "exec")

    def test_length_of_functions(self):
        for path, node in each_node(ast.FunctionDef):
            self.assertLessEqual(node.end_lineno - node.lineno + 1, 40, (path, node.name))


class Names(unittest.TestCase):
    def test_imports(self):
        for path, node in each_node((ast.Import, ast.ImportFrom)):
            self.assertIsInstance(node, ast.ImportFrom, path)
            self.assertEqual(node.level, 0, path)
            if node.module in LIBRARY:
                continue
            source = ROOT.joinpath(*node.module.split(".")).with_suffix(".py")
            self.assertTrue(source.is_file(), (path, node.module))
            here = [one for one in ast.parse(source.read_text()).body if not isinstance(one, ast.ImportFrom)]
            own = [one.name for one in here if isinstance(one, (ast.FunctionDef, ast.ClassDef))]
            own += [one.targets[0].id for one in here if isinstance(one, ast.Assign)]
            for part in node.names:
                self.assertIn(part.name, own, path)

    def test_builtins(self):
        every = set(dir(builtins)) - {"__name__"}
        for path, tree in each_tree():
            own = set(bound_names(tree))
            self.assertEqual(own & (every - METHODS), set(), path)
            read = {node.id for node in ast.walk(tree) if isinstance(node, ast.Name)} & every
            self.assertEqual(read - USABLE, set(), path)

    def test_barred_words(self):
        for path in files():
            for token in tokenize.generate_tokens(io.StringIO(path.read_text()).readline):
                if token.type == tokenize.NAME:
                    self.assertNotIn(token.string, BARRED | UNUSED | {"type", "global", "async", "await"}, path)
            for word in ["(type)", "Meta", "metaclass=", "dataclass", "overload", "contextmanager", "_wall"]:
                self.assertNotIn(word, path.read_text(), path)

    def test_no_underscores_in_front(self):
        for path, tree in each_tree():
            for name in bound_names(tree):
                if name.startswith("__"):
                    self.assertTrue(name in METHODS or ARITHMETIC.fullmatch(name), (path, name))
                self.assertFalse(keyword.issoftkeyword(name) and name != "_", (path, name))


class Code(unittest.TestCase):
    def test_no_floats_and_no_signs_that_are_barred(self):
        for path, node in each_node((ast.Constant, ast.Div, ast.JoinedStr)):
            self.assertNotIsInstance(node, ast.Div, path)
            value = getattr(node, "value", None)
            self.assertNotIsInstance(value, (float, complex), path)
            if isinstance(value, str):
                self.assertNotIn("%", value, path)

    def test_module_level(self):
        for path, tree in each_tree():
            for at, node in enumerate(tree.body):
                if isinstance(node, ast.Expr):
                    self.assertEqual((at, isinstance(node.value, ast.Constant)), (0, True), path)
                elif isinstance(node, ast.Assign):
                    self.assertEqual([one.__class__ for one in node.targets], [ast.Name], path)
                else:
                    self.assertIsInstance(node, (ast.ImportFrom, ast.FunctionDef, ast.ClassDef), path)

    def test_values_at_module_level_are_plain(self):
        """Literals, what operators make of them, and dicts of functions that are defined above."""
        for path, tree in each_tree():
            above = set()
            for node in tree.body:
                if isinstance(node, ast.FunctionDef):
                    above.add(node.name)
                elif isinstance(node, ast.Assign):
                    for one in ast.walk(node.value):
                        if isinstance(one, ast.Name):
                            self.assertTrue(one.id in above and isinstance(node.value, ast.Dict), (path, one.id))
                        self.assertNotIsInstance(one, (ast.Call, ast.Attribute, ast.Subscript, ast.ListComp), path)

    def test_rows_of_exit(self):
        """Only attributes are assigned there, and only attributes and names to them."""
        for path, node in each_node(ast.FunctionDef):
            if node.name == "__exit__":
                for row in node.body:
                    self.assertIsInstance(row, ast.Assign, path)
                    self.assertEqual([one.__class__ for one in row.targets], [ast.Attribute], path)
                    self.assertIsInstance(row.value, (ast.Attribute, ast.Name), path)

    def test_decorators(self):
        for path, node in each_node((ast.FunctionDef, ast.ClassDef)):
            for one in node.decorator_list:
                text = ast.unparse(one)
                self.assertTrue(text in ["property", "classmethod", "staticmethod"] or text.endswith(".setter"), path)

    def test_handlers_name_own_errors(self):
        own = [node.name for _, node in each_node(ast.ClassDef)]
        for path, node in each_node(ast.ExceptHandler):
            self.assertIsNotNone(node.type, path)
            named = node.type.elts if isinstance(node.type, ast.Tuple) else [node.type]
            for one in named:
                self.assertIn(one.id, own + ["KeyError", "ZeroDivisionError", "ValueError", "LookupError",
                                             "IndexError"], path)

    def test_no_generator_expressions_beside_equality(self):
        self.assertEqual([path for path, _ in each_node(ast.GeneratorExp)], [])

    def test_classes_with_indices_tell_how_they_are_iterated(self):
        for path, node in each_node(ast.ClassDef):
            own = [one.name for one in node.body if isinstance(one, ast.FunctionDef)]
            if "__getitem__" in own:
                self.assertIn("__iter__", own, (path, node.name))


def is_generator(node):
    return any(isinstance(one, (ast.Yield, ast.YieldFrom)) for one in ast.walk(node))


def functions():
    return [node for _, node in each_node(ast.FunctionDef)]


def methods_with(text):
    """The names of the methods with this decorator, or with none for an empty text."""
    found = []
    for _, node in each_node(ast.ClassDef):
        for one in node.body:
            if isinstance(one, ast.FunctionDef) and " ".join(map(ast.unparse, one.decorator_list)) == text:
                found.append(one.name)
    return set(found)


class Package(unittest.TestCase):
    """Rules that compare several files, or several classes."""

    def test_no_file_imports_itself_through_others(self):
        above = {}
        for path, tree in each_tree():
            name = ".".join(path.with_suffix("").parts)
            above[name] = {node.module for node in tree.body if isinstance(node, ast.ImportFrom)} - LIBRARY
        done = set()
        while len(done) < len(above):
            free = [name for name in above if name not in done and above[name] <= done]
            self.assertTrue(free, sorted(set(above) - done))
            done.update(free)

    def test_no_local_name_of_an_import_or_a_class(self):
        for path, tree in each_tree():
            outer = {part.name for node in tree.body if isinstance(node, ast.ImportFrom) for part in node.names}
            outer |= {node.name for node in tree.body if isinstance(node, ast.ClassDef)}
            for node in ast.walk(tree):
                if isinstance(node, ast.arg):
                    self.assertNotIn(node.arg, outer, path)
                elif isinstance(node, ast.Name) and isinstance(node.ctx, ast.Store):
                    self.assertNotIn(node.id, outer, path)

    def test_names_at_module_level_are_bound_once_and_used(self):
        for path, tree in each_tree():
            names = [part.name for node in tree.body if isinstance(node, ast.ImportFrom) for part in node.names]
            names += [node.name for node in tree.body if isinstance(node, (ast.FunctionDef, ast.ClassDef))]
            names += [node.targets[0].id for node in tree.body if isinstance(node, ast.Assign)]
            self.assertEqual(len(set(names)), len(names), path)
            read = {node.id for node in ast.walk(tree) if isinstance(node, ast.Name) and isinstance(node.ctx, ast.Load)}
            for node in tree.body:
                if isinstance(node, ast.ImportFrom):
                    self.assertEqual({part.name for part in node.names} - read, set(), path)
                elif isinstance(node, ast.FunctionDef) and node.name.startswith("_"):
                    self.assertIn(node.name, read, path)

    def test_names_of_properties_methods_and_attributes(self):
        properties, plain = methods_with("property"), methods_with("")
        others = methods_with("classmethod") | methods_with("staticmethod")
        stored = {node.attr for _, node in each_node(ast.Attribute) if isinstance(node.ctx, ast.Store)}
        builtin = {name for kind in (str, int, list, dict, tuple, set, bytes) for name in dir(kind)}
        self.assertEqual(properties & plain, set())
        self.assertEqual(others & (plain | properties), set())
        self.assertEqual(stored & (plain | others | properties), set())
        self.assertEqual((properties | others) & builtin, set())
        self.assertNotIn("keys", plain | stored)
        for name in (plain & builtin) - METHODS:
            self.assertTrue(name in LIKE_BUILTINS or ARITHMETIC.fullmatch(name), name)

    def test_generators(self):
        made = [node.name for node in functions() if is_generator(node)]
        names = [node.name for node in functions()]
        self.assertEqual([name for name in made if names.count(name) > 1], [])
        taken = set()
        for _, node in each_node((ast.For, ast.comprehension)):
            taken.add(node.iter)
        for _, node in each_node(ast.Call):
            if isinstance(node.func, ast.Name) and node.func.id in made:
                self.assertEqual([one.__class__ for one in node.args], [ast.Name] * len(node.args))
        iterated = {ast.dump(node) for node in taken}
        for path, node in each_node(ast.Call):
            if isinstance(node.func, ast.Name) and node.func.id in made:
                self.assertIn(ast.dump(node), iterated, path)
        for node in functions():
            if is_generator(node):
                self.assertFalse([one for one in ast.walk(node) if isinstance(one, (ast.Try, ast.With))], node.name)

    def test_sets_are_used_on_the_spot(self):
        for path, tree in each_tree():
            for node in ast.walk(tree):
                for inner in ast.iter_child_nodes(node):
                    if isinstance(inner, ast.Call) and isinstance(inner.func, ast.Name) and inner.func.id == "set":
                        good = isinstance(node, ast.Call) and node.func.id in ("sorted", "len")
                        self.assertTrue(good or isinstance(node, ast.Compare), (path, ast.unparse(node)))
                    self.assertNotIsInstance(inner, ast.SetComp, path)

    def test_powers_and_stars(self):
        for path, node in each_node(ast.BinOp):
            if isinstance(node.op, ast.Pow):
                self.assertIsInstance(node.right, ast.Constant, path)
        for path, node in each_node(ast.Call):
            for one in node.args:
                if isinstance(one, ast.Starred):
                    self.assertIsInstance(one.value, ast.Name, path)

    def test_methods_of_builtin_values(self):
        allowed = set("""append clear copy count endswith extend find get index insert isalnum isalpha isdigit islower
            isspace isupper items join ljust lower lstrip partition pop remove replace reverse rfind rjust rpartition
            rsplit rstrip setdefault split splitlines startswith strip update upper values zfill bit_length add discard
            __init__""".split())
        own = {node.name for node in functions()}
        for path, node in each_node(ast.Call):
            if isinstance(node.func, ast.Attribute):
                self.assertIn(node.func.attr, own | allowed, path)

    def test_attributes_that_are_read_are_stored(self):
        stored = {node.attr for _, node in each_node(ast.Attribute) if isinstance(node.ctx, ast.Store)}
        known = stored | {node.name for node in functions()}
        for path, node in each_node(ast.Attribute):
            if node.attr not in known and not self.is_called(path, node):
                self.fail((path, node.attr))

    def is_called(self, path, node):
        calls = [one.func for _, tree in each_tree() for one in ast.walk(tree) if isinstance(one, ast.Call)]
        return any(isinstance(one, ast.Attribute) and one.attr == node.attr for one in calls)


if __name__ == "__main__":
    unittest.main()
