"""Every file of the package keeps to the part of Python that it is written in, as far as a test sees it."""

import ast
import builtins
import pathlib
import re
import unittest

PACKAGE = "proofworth"
FOLDER = pathlib.Path(__file__).resolve().parent.parent / PACKAGE

OWN_NAMES = (
    "len range enumerate zip min max sum abs sorted reversed int str bool list tuple dict set frozenset isinstance "
    "ord repr any all divmod Exception ValueError TypeError KeyError IndexError LookupError ZeroDivisionError "
    "ArithmeticError OverflowError RuntimeError NotImplementedError AttributeError StopIteration"
).split()
METHODS = (
    "append clear copy count endswith extend find get index insert isalnum isalpha isdigit islower isspace isupper "
    "items join keys ljust lower lstrip partition pop remove replace reverse rfind rjust rpartition rsplit rstrip "
    "setdefault split splitlines startswith strip update upper values zfill bit_length"
).split()
VALUES_ALLOWED = "count index title find get join lower upper split strip copy add".split()
STATEMENTS = (
    ast.Assign, ast.AugAssign, ast.If, ast.While, ast.For, ast.Return, ast.Break, ast.Continue, ast.Pass, ast.Raise,
    ast.Try, ast.Expr, ast.FunctionDef, ast.ClassDef, ast.ImportFrom,
)
EXPRESSIONS = (
    ast.Constant, ast.Name, ast.List, ast.Tuple, ast.Dict, ast.Set, ast.BinOp, ast.UnaryOp, ast.BoolOp, ast.Compare,
    ast.IfExp, ast.Call, ast.Attribute, ast.Subscript, ast.Slice, ast.ListComp, ast.JoinedStr, ast.FormattedValue,
    ast.Lambda,
)
OPERATORS = (
    ast.Add, ast.Sub, ast.Mult, ast.FloorDiv, ast.Mod, ast.Pow, ast.BitAnd, ast.BitOr, ast.BitXor, ast.LShift,
    ast.RShift,
)
NOT_USED = (
    "register mro elements open input version_info with_traceback add_note attrgetter breakpoint builtins compile "
    "copyright credits delattr dir eval exec exit gc getattr globals hasattr help id importlib license locals "
    "methodcaller os quit setattr super type vars sys format format_map chr print"
).split()
WORDS = (
    "type typing typing_extensions enum Enum IntEnum StrEnum Flag IntFlag Generic Protocol ABC ABCMeta namedtuple "
    "NamedTuple TypedDict TYPE_CHECKING abstractmethod"
).split()
FILE_NAMES_NOT_USED = "test tests testing site conftest sitecustomize usercustomize".split() + WORDS + dir(builtins)
WALKED = ("zip", "enumerate", "reversed", "range", "items", "keys", "values")
WALKERS = ("list", "tuple", "dict", "sorted", "sum", "any", "all", "enumerate", "zip", "min", "max", "join")
KEYWORDS = {
    "sorted": ("key", "reverse"), "min": ("key", "default"), "max": ("key", "default"), "sum": ("start",),
    "enumerate": ("start",), "zip": ("strict",),
}
DUNDERS = ("__init__", "__eq__", "__repr__", "__str__", "__len__")


def own_attributes():
    names = set()
    for value in ("", 0, [], (), {}, set(), b""):
        names |= set(dir(value))
    return names


def is_plain(node):
    if isinstance(node, ast.UnaryOp) and isinstance(node.op, ast.USub):
        return is_plain(node.operand)
    if isinstance(node, ast.Constant):
        return node.value is None or isinstance(node.value, (int, str))
    if isinstance(node, (ast.List, ast.Tuple)):
        return all(is_plain(inner) for inner in node.elts)
    if isinstance(node, ast.Dict):
        return all(is_plain(inner) for inner in list(node.keys) + list(node.values))
    return False


def bound_names(node):
    return [inner.id for inner in ast.walk(node) if isinstance(inner, ast.Name) and isinstance(inner.ctx, ast.Store)]


class Checker:
    def __init__(self, source):
        self.source = source
        self.tree = ast.parse(source)
        self.found = []
        self.parents = {}
        for node in ast.walk(self.tree):
            for inner in ast.iter_child_nodes(node):
                self.parents[inner] = node

    def tell(self, rule, node):
        self.found.append((rule, getattr(node, "lineno", node)))

    def check(self):
        self.check_lines()
        self.check_top()
        for node in ast.walk(self.tree):
            if isinstance(node, ast.stmt):
                self.check_statement(node)
            elif isinstance(node, ast.expr):
                self.check_expression(node)
            if isinstance(node, ast.FunctionDef):
                self.check_function(node)
            if isinstance(node, ast.ClassDef):
                self.check_class(node)
        self.check_names()
        return self.found

    def check_lines(self):
        lines = self.source.split("\n")
        if len(lines) > 401:
            self.tell("L10", 400)
        for number, line in enumerate(lines, start=1):
            if len(line) > 120 or "\t" in line:
                self.tell("L10", number)
            if any(not " " <= sign <= "~" for sign in line):
                self.tell("L14", number)
            if set(re.findall(r"\w+", line)) & set(WORDS) or re.search("dataclass|overload|contextmanager", line):
                self.tell("L17", number)
            if re.search(r"\\[^nt\\\"']", line):
                self.tell("L27", number)

    def check_top(self):
        names = []
        for place, node in enumerate(self.tree.body):
            if place == 0 and isinstance(node, ast.Expr) and isinstance(node.value, ast.Constant):
                continue
            if isinstance(node, ast.ImportFrom):
                names += [alias.asname or alias.name for alias in node.names]
            elif isinstance(node, (ast.FunctionDef, ast.ClassDef)):
                names.append(node.name)
            elif isinstance(node, ast.Assign) and is_plain(node.value) and isinstance(node.targets[0], ast.Name):
                names += bound_names(node)
                self.check_kept(node.value)
            else:
                self.tell("L3", node)
        if len(names) != len(set(names)):
            self.tell("L15", 1)

    def check_kept(self, value):
        if isinstance(value, (ast.List, ast.Dict)):
            inner = [node for node in ast.walk(value) if isinstance(node, (ast.List, ast.Dict))]
            if len(inner) > 1:
                self.tell("L15", value)

    def check_statement(self, node):
        if not isinstance(node, STATEMENTS):
            self.tell("L6", node)
        if isinstance(node, (ast.For, ast.While)) and node.orelse:
            self.tell("L6", node)
        if isinstance(node, ast.Assign) and (len(node.targets) != 1 or isinstance(node.targets[0], ast.Tuple)):
            self.tell("L6", node)
        if isinstance(node, ast.Expr) and not isinstance(node.value, ast.Call) and node != self.tree.body[0]:
            self.tell("L6", node)
        if isinstance(node, ast.ImportFrom):
            self.check_import(node)
        if isinstance(node, ast.Try):
            self.check_try(node)
        if isinstance(node, ast.Raise) and not isinstance(node.exc, ast.Call):
            self.tell("L19", node)
        if isinstance(node, ast.For):
            self.check_walk(node)

    def check_import(self, node):
        module = node.module or ""
        if node.level or not module.startswith(PACKAGE + ".") or node not in self.tree.body:
            self.tell("L2", node)
        if any(alias.name == "*" for alias in node.names):
            self.tell("L2", node)

    def check_try(self, node):
        if node.finalbody:
            self.tell("L6", node)
        for handler in node.handlers:
            allowed = ("KeyError", "ZeroDivisionError", "StopIteration")
            if not isinstance(handler.type, ast.Name):
                self.tell("L19", handler)
            elif handler.type.id in OWN_NAMES and handler.type.id not in allowed:
                self.tell("L19", handler)

    # What is walked is not changed in the loop.
    def check_walk(self, node):
        walked = ast.unparse(node.iter)
        for inner in ast.walk(node):
            if isinstance(inner, ast.Call) and isinstance(inner.func, ast.Attribute):
                changes = "append clear extend insert pop remove reverse setdefault update".split()
                target = ast.unparse(inner.func.value)
                if inner.func.attr in changes and re.search(rf"(^|\(|, ){re.escape(target)}($|\)|,)", walked):
                    self.tell("L23", inner)
            if isinstance(inner, ast.Subscript) and isinstance(inner.ctx, ast.Store):
                if re.search(rf"(^|\(|, ){re.escape(ast.unparse(inner.value))}($|\)|,)", walked):
                    self.tell("L23", inner)

    def check_expression(self, node):
        if not isinstance(node, EXPRESSIONS):
            self.tell("L7", node)
        if isinstance(node, ast.Constant) and isinstance(node.value, (float, complex, bytes)):
            self.tell("L7", node)
        if isinstance(node, ast.Constant) and isinstance(node.value, str) and "%" in node.value:
            self.tell("L27", node)
        if isinstance(node, ast.BinOp) and not isinstance(node.op, OPERATORS):
            self.tell("L7", node)
        if isinstance(node, ast.BinOp) and isinstance(node.op, ast.Pow) and not isinstance(node.right, ast.Constant):
            self.tell("L27", node)
        if isinstance(node, ast.ListComp) and (len(node.generators) != 1 or len(node.generators[0].ifs) > 1):
            self.tell("L7", node)
        if isinstance(node, ast.FormattedValue):
            if not isinstance(node.value, ast.Name) or node.format_spec is not None:
                self.tell("L7", node)
        if isinstance(node, ast.Compare):
            self.check_compare(node)
        if isinstance(node, ast.Call):
            self.check_call(node)
        if isinstance(node, ast.Attribute) and (node.attr in NOT_USED or re.match("(f|tb|co|gi)_", node.attr)):
            self.tell("L17", node)

    def check_compare(self, node):
        for operator, right in zip(node.ops, node.comparators):
            if isinstance(operator, (ast.Is, ast.IsNot)):
                if not isinstance(right, ast.Constant) or right.value not in (None, True, False):
                    self.tell("L20", node)

    def check_call(self, node):
        name = node.func.id if isinstance(node.func, ast.Name) else getattr(node.func, "attr", "")
        if any(isinstance(argument, ast.Starred) for argument in node.args):
            self.tell("L7", node)
        is_own = isinstance(node.func, ast.Name) and name in OWN_NAMES or name in METHODS
        for keyword in node.keywords:
            if keyword.arg is None or is_own and keyword.arg not in KEYWORDS.get(name, ()):
                self.tell("L22", node)
        if name in ("set", "frozenset"):
            self.tell("L24", node)
        if name in WALKED:
            self.check_walked_at_once(node)

    def check_walked_at_once(self, node):
        around = self.parents[node]
        if isinstance(around, (ast.For, ast.comprehension)) and around.iter == node:
            return
        if isinstance(around, ast.Call) and around.args and around.args[0] == node:
            name = around.func.id if isinstance(around.func, ast.Name) else around.func.attr
            if name in WALKERS:
                return
        self.tell("L23", node)

    def check_function(self, node):
        if node.end_lineno - node.lineno + 1 > 40:
            self.tell("L10", node)
        arguments = node.args
        if arguments.vararg or arguments.kwarg or arguments.kwonlyargs or arguments.posonlyargs:
            self.tell("L4", node)
        if node.decorator_list or not all(is_plain(default) for default in arguments.defaults):
            self.tell("L4", node)
        if node.returns or any(argument.annotation for argument in arguments.args):
            self.tell("L21", node)

    def check_class(self, node):
        if node not in self.tree.body:
            self.tell("L15", node)
        if node.decorator_list or node.keywords or len(node.bases) > 1:
            self.tell("L5", node)
        names = []
        for inner in node.body:
            if not isinstance(inner, ast.FunctionDef):
                self.tell("L5", inner)
            else:
                names.append(inner.name)
                if inner.name.startswith("__") and inner.name not in DUNDERS:
                    self.tell("L5", inner)
        if len(names) != len(set(names)):
            self.tell("L18", node)

    def top_names(self):
        classes = [node.name for node in self.tree.body if isinstance(node, ast.ClassDef)]
        imports = [alias.name for node in self.tree.body if isinstance(node, ast.ImportFrom) for alias in node.names]
        return classes + imports

    def check_names(self):
        taken = self.top_names() + dir(builtins)
        known = OWN_NAMES + self.top_names()
        for node in ast.walk(self.tree):
            name = self.bound_here(node)
            if name is not None:
                known.append(name)
                if name not in DUNDERS and not re.fullmatch("[A-Za-z][A-Za-z0-9_]*", name):
                    self.tell("L12", node)
                is_top = self.parents.get(node) == self.tree
                if not is_top and name in taken and not isinstance(self.parents.get(node), ast.ClassDef):
                    self.tell("L15", node)
        for node in ast.walk(self.tree):
            if isinstance(node, ast.Name) and (node.id not in known or node.id in NOT_USED):
                self.tell("L8", node)

    def bound_here(self, node):
        if isinstance(node, ast.Name) and isinstance(node.ctx, ast.Store):
            return node.id
        if isinstance(node, ast.arg):
            return node.arg
        if isinstance(node, (ast.FunctionDef, ast.ClassDef, ast.ExceptHandler)):
            return node.name
        return None


def package_sources():
    return {path.stem: path.read_text(encoding="utf-8") for path in sorted(FOLDER.glob("*.py"))}


class Files(unittest.TestCase):
    def test_names_of_files(self):
        names = sorted(path.name for path in FOLDER.iterdir() if path.name != "__pycache__")
        self.assertIn("__init__.py", names)
        self.assertIn("items.py", names)
        for name in names:
            if name not in ("__init__.py", "__main__.py"):
                self.assertRegex(name, r"^[a-z][a-z0-9_]*\.py$")
                self.assertNotIn(name[:-3], FILE_NAMES_NOT_USED)
                self.assertFalse(name.startswith("test_"))

    def test_each_file(self):
        for name, source in package_sources().items():
            with self.subTest(name):
                self.assertEqual(Checker(source).check(), [])


class Imports(unittest.TestCase):
    def drawn_from(self):
        drawn = {}
        for name, source in package_sources().items():
            rows = [node for node in ast.parse(source).body if isinstance(node, ast.ImportFrom)]
            drawn[name] = [(node.module.split(".")[1], alias.name) for node in rows for alias in node.names]
        return drawn

    def test_from_the_file_that_defines_the_name(self):
        defined = {}
        for name, source in package_sources().items():
            defined[name] = []
            for node in ast.parse(source).body:
                if isinstance(node, (ast.FunctionDef, ast.ClassDef)):
                    defined[name].append(node.name)
                elif isinstance(node, ast.Assign):
                    defined[name] += bound_names(node)
        for rows in self.drawn_from().values():
            for module, name in rows:
                self.assertIn(name, defined[module])

    def test_every_import_is_used(self):
        for name, source in package_sources().items():
            used = [node.id for node in ast.walk(ast.parse(source)) if isinstance(node, ast.Name)]
            for module, imported in self.drawn_from()[name]:
                self.assertIn(imported, used, name)

    def test_no_two_files_draw_from_one_another(self):
        left = {name: {module for module, imported in rows} for name, rows in self.drawn_from().items()}
        self.assertEqual(left["__init__"], set())
        while left:
            free = [name for name, modules in left.items() if not modules & set(left)]
            self.assertNotEqual(free, [], left)
            left = {name: modules for name, modules in left.items() if name not in free}


class Attributes(unittest.TestCase):
    def gathered(self):
        methods = set()
        values = set()
        called = set()
        for source in package_sources().values():
            for node in ast.walk(ast.parse(source)):
                if isinstance(node, ast.ClassDef):
                    methods |= {inner.name for inner in node.body}
                if isinstance(node, ast.Attribute) and isinstance(node.ctx, ast.Store):
                    values.add(node.attr)
                if isinstance(node, ast.Call) and isinstance(node.func, ast.Attribute):
                    called.add(node.func.attr)
        return methods - set(DUNDERS), values, called

    def test_no_name_is_a_method_and_a_value(self):
        methods, values, called = self.gathered()
        self.assertEqual(methods & values, set())

    def test_names_are_free(self):
        methods, values, called = self.gathered()
        self.assertEqual(methods & own_attributes() - set(METHODS) - {"add", "discard"}, set())
        self.assertEqual(values & own_attributes() - set(VALUES_ALLOWED), set())
        self.assertEqual(values & set(METHODS) - set(VALUES_ALLOWED), set())

    def test_methods_that_are_called(self):
        methods, values, called = self.gathered()
        self.assertEqual(called - methods - set(METHODS), set())


class TheChecksSee(unittest.TestCase):
    def seen(self, source):
        return {rule for rule, line in Checker(source).check()}

    def test_what_is_outside(self):
        for source, rule in (
            ("import sys\n", "L6"),
            ("from os import path\n", "L2"),
            ("from .items import answers\n", "L2"),
            ("X = len([])\n", "L3"),
            ("X = 1\nX = 2\n", "L15"),
            ("def f(*xs):\n    return 1\n", "L4"),
            ("def f(a: int):\n    return 1\n", "L21"),
            ("class A:\n    x = 1\n", "L5"),
            ("def f(a):\n    with a:\n        pass\n", "L6"),
            ("def f(a):\n    x = y = a\n", "L6"),
            ("def f(a):\n    return a / 2\n", "L7"),
            ("def f(a):\n    return 1.5\n", "L7"),
            ("def f(a):\n    return {x for x in a}\n", "L7"),
            ("def f(a):\n    return map(a)\n", "L8"),
            ("def f(a):\n" + "    a += 1\n" * 40, "L10"),
            ("X = 1\n" * 401, "L10"),
            ("# " + "x" * 119 + "\n", "L10"),
            ("def f(a_):\n    return _\n", "L8"),
            ("def f(_a):\n    return 1\n", "L12"),
            ("# \u00e9\n", "L14"),
            ("def f(a):\n    min = a\n", "L15"),
            ("# the type\n", "L17"),
            ("def f(a):\n    raise a\n", "L19"),
            ("def f(a):\n    try:\n        a()\n    except Exception:\n        pass\n", "L19"),
            ("def f(a):\n    return a is 3\n".replace("3", "a"), "L20"),
            ("def f(a):\n    return sorted(a, cmp=1)\n", "L22"),
            ("def f(a):\n    return range(a)\n", "L23"),
            ("def f(a):\n    for b in a:\n        a.append(b)\n", "L23"),
            ("def f(a):\n    for b, c in enumerate(a):\n        a[b] = 1\n", "L23"),
            ("X = [[1], 2]\n", "L15"),
            ("X = {1: [2]}\n", "L15"),
            ("def f(a):\n    return set(a)\n", "L24"),
            ("X = \"a % b\"\n", "L27"),
            ("X = \"\\x41\"\n", "L27"),
            ("def f(a):\n    return 2 ** a\n", "L27"),
        ):
            with self.subTest(source):
                self.assertIn(rule, self.seen(source))

    def test_what_is_inside(self):
        self.assertEqual(self.seen('"""Doc."""\n\nX = (1, -2)\n\n\ndef f(a, b=1):\n    return [a, b, X[0]]\n'), set())
