"""What of the rules of the language can be read off the files of the package."""

import ast
import builtins
import pathlib
import re
import unittest
import warnings

PACKAGE = pathlib.Path(__file__).resolve().parent.parent / "shortspans"
DEFINED = {
    "errors": ("SpanError BadBase BadNumber BadDigits BadRange BadRule BadReader BadManner BadEntry BadName BadText "
               "OtherBase TooMany Missing NothingLeft"),
    "digits": "digits number_of length changed near",
    "styles": "MOST_RULES MOST_CONDITIONS MOST_SIZE is_rule Style",
    "readers": "READERS completed fewest is_right",
    "deciding": "limit first_range misread wasted misread_by parting longer_at never_longer needless lean mended",
    "stretches": "stretches total",
    "entries": "MANNERS need_entry entry_text read_entry",
    "index": "Index tried restyled",
    "texts": "style_text read_style",
}
METHODS_DEFINED = {
    ("styles", "Style"): ("__init__ of base rules rule_of kept tail __call__ __len__ __getitem__ __contains__ __eq__ "
                          "__radd__ without put"),
    ("index", "Index"): ("__init__ style manner __setitem__ __getitem__ forget __contains__ __len__ names note strike "
                         "__iadd__ text cost undo __eq__ trial"),
}
OWN_ERRORS = set(DEFINED["errors"].split())
ERRORS = set("Exception ValueError TypeError KeyError IndexError LookupError ZeroDivisionError ArithmeticError "
             "OverflowError RuntimeError NotImplementedError AttributeError StopIteration".split())
BUILTINS = ERRORS | set(
    "len range enumerate zip min max sum abs sorted reversed int str bool bytes list tuple dict set frozenset "
    "isinstance ord repr any all divmod iter next super property staticmethod classmethod NotImplemented".split())
CAUGHT = set("KeyError ZeroDivisionError StopIteration ValueError LookupError IndexError".split())
DUNDERS = set("__init__ __eq__ __repr__ __str__ __len__ __enter__ __exit__ __call__ __iter__ "
              "__neg__ __pos__ __invert__ __abs__ __bool__ __contains__ __getitem__ __setitem__ "
              "__lt__ __le__ __gt__ __ge__ __ne__".split())
DUNDERS |= {"__" + start + name + "__" for start in ("", "r", "i") for name in
            "add sub mul floordiv mod pow and or xor lshift rshift".split()} - {"__rpow__"}
METHODS = set(
    "append clear copy count endswith extend find get index insert isalnum isalpha isdigit islower isspace isupper "
    "items join keys ljust lower lstrip partition pop remove replace reverse rfind rjust rpartition rsplit rstrip "
    "setdefault split splitlines startswith strip update upper values zfill bit_length title capitalize swapcase "
    "casefold center expandtabs removeprefix removesuffix rindex isascii isdecimal isnumeric istitle isidentifier "
    "isprintable "
    "sort add discard __init__".split())
NEVER = set("register mro elements open input law version_info with_traceback add_note".split())
NOT_NAMES = NEVER | set(
    "attrgetter breakpoint builtins compile copyright credits delattr dir eval exec exit gc getattr globals hasattr "
    "help id importlib license locals methodcaller os quit setattr type vars sys __name__".split())
BARRED = ("type typing typing_extensions enum Enum IntEnum StrEnum Flag IntFlag Generic Protocol ABC ABCMeta "
          "namedtuple NamedTuple TypedDict TYPE_CHECKING abstractmethod").split()
STATEMENTS = (ast.Assign, ast.AugAssign, ast.If, ast.While, ast.For, ast.Return, ast.Break, ast.Continue, ast.Pass,
              ast.Raise, ast.Assert, ast.Delete, ast.Nonlocal, ast.With, ast.Try, ast.Match, ast.Expr,
              ast.FunctionDef, ast.ClassDef, ast.ImportFrom)
FUNCTIONS = (ast.FunctionDef, ast.Lambda)
BAD_FILE_NAMES = "test|tests|testing|test_.*|law_.*|site|conftest|sitecustomize|usercustomize"


def builtin_names():
    return {name for name in dir(builtins) if not name.startswith("_")}


def text_faults(text):
    """Faults of the text alone: sizes, characters and barred words."""
    rows = text.split("\n")
    for at, row in enumerate(rows, 1):
        if len(row) > 120:
            yield at, "L10"
        if not all(" " <= sign <= "~" for sign in row):
            yield at, "L14"
        if re.search(r"\b(" + "|".join(BARRED) + r")\b|dataclass|overload|contextmanager", row):
            yield at, "L17"
    if len(text.splitlines()) > 399:
        yield 400, "L10"


def module_faults(tree):
    """Faults at module level: imports, what stands there, and names bound twice."""
    bound = []
    for at, node in enumerate(tree.body):
        if isinstance(node, ast.ImportFrom):
            module = node.module or ""
            if node.level or not re.fullmatch(r"shortspans\.[a-z_0-9]+", module) or module.endswith("__main__"):
                yield node.lineno, "L2"
            if any(name.asname or name.name == "*" for name in node.names):
                yield node.lineno, "L2"
            if any(not isinstance(ahead, (ast.ImportFrom, ast.Expr)) for ahead in tree.body[:at]):
                yield node.lineno, "L2"
            bound += [name.name for name in node.names]
        elif isinstance(node, (ast.FunctionDef, ast.ClassDef)):
            bound.append(node.name)
        elif isinstance(node, ast.Assign) and len(node.targets) == 1 and isinstance(node.targets[0], ast.Name):
            bound.append(node.targets[0].id)
            if not all(isinstance(part, (ast.Constant, ast.Tuple, ast.List, ast.Dict, ast.Name, ast.UnaryOp, ast.Load,
                                         ast.USub, ast.BinOp, ast.operator)) for part in ast.walk(node.value)):
                yield node.lineno, "L3"
        elif not (at == 0 and isinstance(node, ast.Expr) and isinstance(node.value, ast.Constant)):
            yield node.lineno, "L3"
    if len(bound) != len(set(bound)):
        yield 1, "L15"


def bindings(tree):
    """(name, line, node) of each function, class, parameter and variable."""
    for node in ast.walk(tree):
        if isinstance(node, (ast.FunctionDef, ast.ClassDef)):
            yield node.name, node.lineno, node
        if isinstance(node, ast.arg):
            yield node.arg, node.lineno, node
        if isinstance(node, ast.Name) and not isinstance(node.ctx, ast.Load):
            yield node.id, node.lineno, node
        if isinstance(node, ast.ExceptHandler) and node.name:
            yield node.name, node.lineno, node


def inner_bindings(tree):
    """(name, line) of each parameter, local variable and nested function."""
    for function in ast.walk(tree):
        if isinstance(function, FUNCTIONS):
            for name, line, node in bindings(function):
                if node is not function:
                    yield name, line


def name_faults(tree):
    """Faults of the names that the file binds and reads."""
    methods = [part for node in ast.walk(tree) if isinstance(node, ast.ClassDef) for part in node.body]
    tops = {node.name for node in tree.body if isinstance(node, ast.ClassDef)}
    tops |= {name.name for node in tree.body if isinstance(node, ast.ImportFrom) for name in node.names}
    for name, line, node in bindings(tree):
        if name not in DUNDERS and not re.fullmatch("[A-Za-z][A-Za-z0-9_]*", name):
            yield line, "L12"
        if name in NOT_NAMES:
            yield line, "L17"
        if name in builtin_names() and (node not in methods or name in BUILTINS):
            yield line, "L15"
    for name, line in inner_bindings(tree):
        if name in tops:
            yield line, "L15"
    known = {name for name, line, node in bindings(tree)} | tops | BUILTINS
    for node in ast.walk(tree):
        if isinstance(node, ast.Name) and node.id not in known:
            yield node.lineno, "L8"
        if isinstance(node, ast.Attribute) and (node.attr in NEVER or node.attr.startswith("_")):
            if node.attr != "__init__":
                yield node.lineno, "L17"


def raise_faults(node):
    if isinstance(node, ast.Raise) and node.exc is not None:
        made = node.exc
        if not isinstance(made, ast.Call) or not isinstance(made.func, ast.Name) or \
                made.func.id not in OWN_ERRORS | ERRORS:
            yield node.lineno, "L19"
    if isinstance(node, ast.ExceptHandler):
        caught = node.type.elts if isinstance(node.type, ast.Tuple) else [node.type]
        if not caught or any(not isinstance(one, ast.Name) or one.id not in OWN_ERRORS | CAUGHT for one in caught):
            yield node.lineno, "L19"


def sign_faults(node):
    """Faults of operators, literals and comparisons."""
    if isinstance(node, (ast.BinOp, ast.AugAssign)):
        if isinstance(node.op, (ast.Div, ast.MatMult)):
            yield node.lineno, "L7"
        exponent = getattr(node, "right", getattr(node, "value", None))
        if isinstance(node.op, ast.Pow) and not isinstance(exponent, ast.Constant):
            yield node.lineno, "L27"
    if isinstance(node, ast.AugAssign) and isinstance(node.op, ast.Add):
        # In the functions that an operator calls none is allowed, as the package has __iadd__.
        yield node.lineno, "L5"
    if isinstance(node, ast.Constant):
        if isinstance(node.value, (float, complex)) or node.value is Ellipsis:
            yield node.lineno, "L7"
        if isinstance(node.value, str) and "%" in node.value:
            yield node.lineno, "L27"
    if isinstance(node, ast.Compare):
        for sign, right in zip(node.ops, node.comparators):
            plain = isinstance(right, ast.Constant) and right.value in (None, True, False)
            if isinstance(sign, (ast.Is, ast.IsNot)) and not plain:
                yield node.lineno, "L20"


def call_faults(node):
    """Faults of calls in a package that has operators and a class with __getitem__."""
    if isinstance(node, ast.Call) and isinstance(node.func, ast.Name):
        if node.func.id in ("sum", "min", "max", "sorted", "any", "all"):
            if any(isinstance(argument, ast.GeneratorExp) for argument in node.args):
                yield node.lineno, "L5"
        if node.func.id == "reversed" and isinstance(node.args[0], ast.Name):
            yield node.lineno, "L5"


def function_faults(node, methods):
    if isinstance(node, ast.FunctionDef):
        if node.end_lineno - node.lineno + 1 > 40:
            yield node.lineno, "L10"
        for mark in node.decorator_list:
            name = mark.id if isinstance(mark, ast.Name) else getattr(mark, "attr", "")
            if name not in ("property", "classmethod", "staticmethod", "setter") or node not in methods:
                yield node.lineno, "L4"
        if node.args.posonlyargs:
            yield node.lineno, "L4"
        if node.name.startswith("__") and (node.name not in DUNDERS or node not in methods):
            yield node.lineno, "L5"


def is_setter(part):
    """Whether a method sets a property, as it has to be written: below the one that reads it."""
    marks = part.decorator_list
    return (len(marks) == 1 and isinstance(marks[0], ast.Attribute) and marks[0].attr == "setter"
            and isinstance(marks[0].value, ast.Name) and marks[0].value.id == part.name and len(part.args.args) == 2)


def plain_exit_row(row):
    """Whether a statement assigns an attribute or a name to an attribute; the package needs nothing else in an exit."""
    return (isinstance(row, ast.Assign) and len(row.targets) == 1 and isinstance(row.targets[0], ast.Attribute)
            and isinstance(row.value, (ast.Attribute, ast.Name)))


def exit_faults(part):
    if [arg.arg for arg in part.args.args] != ["self", "kind", "value", "trace"]:
        yield part.lineno, "L6"
    if not all(plain_exit_row(row) for row in part.body):
        yield part.lineno, "L6"
    if {node.id for node in ast.walk(part) if isinstance(node, ast.Name)} & {"kind", "value", "trace"}:
        yield part.lineno, "L6"


def class_faults(node):
    if isinstance(node, ast.ClassDef):
        parts = [part for part in node.body if isinstance(part, ast.FunctionDef)]
        names = [part.name for part in parts if not is_setter(part)]
        if len(names) != len(set(names)):
            yield node.lineno, "L18"
        for part in parts:
            if is_setter(part) and part.name not in names:
                yield part.lineno, "L5"
            if part.name == "__exit__":
                yield from exit_faults(part)
        if "__getitem__" in names and "__iter__" not in names:
            yield node.lineno, "L5"
        if node.decorator_list:
            yield node.lineno, "L5"


def statement_faults(tree):
    methods = [part for node in ast.walk(tree) if isinstance(node, ast.ClassDef) for part in node.body]
    for node in ast.walk(tree):
        if isinstance(node, ast.stmt) and not isinstance(node, STATEMENTS):
            yield node.lineno, "L6"
        yield from raise_faults(node)
        yield from sign_faults(node)
        yield from call_faults(node)
        yield from function_faults(node, methods)
        yield from class_faults(node)


def faults(text):
    """The sorted faults of a file, each a pair of line and rule."""
    tree = ast.parse(text)
    return sorted([*text_faults(text), *module_faults(tree), *name_faults(tree), *statement_faults(tree)])


def package_trees():
    return {path.stem: ast.parse(path.read_text(encoding="utf-8")) for path in sorted(PACKAGE.glob("*.py"))}


def assigned_attributes(trees):
    return {node.attr for tree in trees.values() for node in ast.walk(tree)
            if isinstance(node, ast.Attribute) and isinstance(node.ctx, ast.Store)}


def set_properties(trees):
    return {part.name for tree in trees.values() for part in ast.walk(tree)
            if isinstance(part, ast.FunctionDef) and is_setter(part)}


def own_methods(trees):
    return {part.name for tree in trees.values() for node in ast.walk(tree) if isinstance(node, ast.ClassDef)
            for part in node.body if isinstance(part, ast.FunctionDef)}


class Files(unittest.TestCase):
    def test_folder(self):
        found = [path.name for path in PACKAGE.iterdir() if path.name != "__pycache__"]
        self.assertIn("__init__.py", found)
        for name in found:
            self.assertRegex(name, r"^([a-z][a-z0-9_]*|__init__)\.py$")
            self.assertNotRegex(name, rf"^({BAD_FILE_NAMES})\.py$")
            self.assertNotIn(name[:-3], builtin_names())

    def test_no_faults(self):
        for path in sorted(PACKAGE.glob("*.py")):
            with self.subTest(path=path.name):
                self.assertEqual(faults(path.read_text(encoding="utf-8")), [])

    def test_no_warnings(self):
        for path in PACKAGE.glob("*.py"):
            with warnings.catch_warnings():
                warnings.simplefilter("error")
                compile(path.read_text(encoding="utf-8"), path.name, "exec")


class Package(unittest.TestCase):
    def setUp(self):
        self.trees = package_trees()

    def names_of(self, module):
        body = self.trees[module].body
        names = [node.name for node in body if isinstance(node, (ast.FunctionDef, ast.ClassDef))]
        return names + [node.targets[0].id for node in body if isinstance(node, ast.Assign)]

    def test_interface(self):
        for module, names in DEFINED.items():
            self.assertEqual(set(names.split()) - set(self.names_of(module)), set())
        for (module, name), methods in METHODS_DEFINED.items():
            made = [node for node in self.trees[module].body if getattr(node, "name", "") == name][0]
            found = {part.name for part in made.body if isinstance(part, ast.FunctionDef)}
            self.assertEqual(set(methods.split()) - found, set())

    def test_imports_name_the_defining_file(self):
        for tree in self.trees.values():
            for node in tree.body:
                if isinstance(node, ast.ImportFrom):
                    names = {name.name for name in node.names}
                    self.assertEqual(names - set(self.names_of(node.module.split(".")[1])), set())

    def test_imports_have_no_circle(self):
        above = {name: {node.module.split(".")[1] for node in tree.body if isinstance(node, ast.ImportFrom)}
                 for name, tree in self.trees.items()}
        while above:
            free = [name for name, needed in above.items() if not needed & set(above)]
            self.assertTrue(free, above)
            above = {name: needed for name, needed in above.items() if name not in free}

    def test_methods_and_attributes(self):
        assigned, methods = assigned_attributes(self.trees), own_methods(self.trees)
        self.assertEqual(assigned & methods, set_properties(self.trees))
        for tree in self.trees.values():
            called = {node.func for node in ast.walk(tree) if isinstance(node, ast.Call)}
            for node in ast.walk(tree):
                if isinstance(node, ast.Attribute):
                    known = METHODS | methods if node in called else assigned | methods | {"setter"}
                    self.assertIn(node.attr, known, node.lineno)


class Checks(unittest.TestCase):
    """The checks above find what they are to find."""

    def test_found(self):
        rows = (
            ("import os", "L3"), ("from os import path", "L2"), ("from .digits import near", "L2"),
            ("K = 1\nfrom shortspans.digits import near", "L2"), ("from shortspans.digits import *", "L2"),
            ("K = 1\nK = 2", "L15"), ("K = len('a')", "L3"), ("print(1)", "L3"), ("K = '%'", "L27"), ("K = 1.5", "L7"),
            ("# " + "x" * 130, "L10"), ("K = 1\t", "L14"), ("# \u00e9", "L14"), ("# the type", "L17"),
            ("def f(x):\n" + "    x = x\n" * 40, "L10"), ("K = 1\n" * 400, "L10"), ("def f(x, /):\n    pass", "L4"),
            ("@f\ndef g():\n    pass", "L4"), ("class A:\n    def __hash__(self):\n        return 1", "L5"),
            ("def f():\n    global k\n    k = 1", "L6"), ("async def f():\n    pass", "L6"),
            ("def f(x):\n    return hash(x)", "L8"), ("def f(id):\n    pass", "L17"), ("def f(min):\n    pass", "L15"),
            ("from shortspans.digits import near\ndef f(near):\n    pass", "L15"), ("def f(_x):\n    pass", "L12"),
            ("def f(x):\n    return x.__dict__", "L17"), ("def f(x):\n    return x is 5", "L20"),
            ("def f(x):\n    return 2 ** x", "L27"), ("def f(x):\n    return x / 2", "L7"),
            ("def f(x):\n    x += x", "L5"), ("def f(x):\n    x += 1", "L5"),
            ("class A:\n    def a(self):\n        pass\n    def a(self):\n        pass", "L18"),
            ("class A:\n    @a.setter\n    def a(self, x):\n        self.b = x", "L5"),
            ("class A:\n    def __exit__(self, kind, value, trace):\n        print(self)", "L6"),
            ("class A:\n    def __exit__(self, kind, value, trace):\n        self.a = value", "L6"),
            ("class A:\n    def __exit__(self, kind):\n        self.a = self.b", "L6"),
            ("def f(x):\n    raise x", "L19"),
            ("def f():\n    try:\n        f()\n    except TypeError:\n        pass", "L19"),
            ("def f(x):\n    return sum(a for a in x)", "L5"), ("def f(x):\n    return list(reversed(x))", "L5"),
            ("class A:\n    def __getitem__(self, at):\n        return 1", "L5"),
        )
        for text, rule in rows:
            self.assertIn(rule, [found for line, found in faults(text)], text)
        self.assertEqual(faults('"""Text."""\n\nK = (1, -2)\n\n\ndef f(x):\n    return x ** 2 is None\n'), [])


if __name__ == "__main__":
    unittest.main()
