"""The package keeps to ../shared/LANGUAGE.md, as far as a walk through its files can tell."""

import ast
import builtins
import pathlib
import re
import unittest

PACKAGE = pathlib.Path(__file__).resolve().parent.parent / "shapeorders"

ERRORS = set("""Exception ValueError TypeError KeyError IndexError LookupError ZeroDivisionError ArithmeticError
    OverflowError RuntimeError NotImplementedError AttributeError StopIteration""".split())
OWN_NAMES = set("""len range enumerate zip min max sum abs sorted reversed int str bool list tuple dict set frozenset
    isinstance ord repr any all divmod""".split()) | ERRORS
METHODS = set("""append clear copy count endswith extend find get index insert isalnum isalpha isdigit islower isspace
    isupper items join keys ljust lower lstrip partition pop remove replace reverse rfind rjust rpartition rsplit
    rstrip setdefault split splitlines startswith strip update upper values zfill bit_length""".split())
NO_WORDS = re.compile(r"\b(type|typing|typing_extensions|enum|Enum|IntEnum|StrEnum|Flag|IntFlag|Generic|Protocol|ABC"
                      r"|ABCMeta|namedtuple|NamedTuple|TypedDict|TYPE_CHECKING|abstractmethod)\b"
                      r"|dataclass|overload|contextmanager")
NO_NAMES = set("""register mro elements open input version_info with_traceback add_note attrgetter breakpoint builtins
    compile copyright credits delattr dir eval exec exit gc getattr globals hasattr help id importlib license locals
    methodcaller os quit setattr super type vars sys __name__ chr print""".split())
WALKED = {"zip", "enumerate", "reversed", "range"}
WALKERS = {"list", "tuple", "dict", "sorted", "sum", "any", "all", "enumerate", "zip", "min", "max"}

STATEMENTS = (ast.Assign, ast.AugAssign, ast.If, ast.While, ast.For, ast.Return, ast.Break, ast.Continue, ast.Pass,
              ast.Raise, ast.Try, ast.Expr, ast.FunctionDef, ast.ClassDef, ast.ImportFrom)
EXPRESSIONS = (ast.BoolOp, ast.BinOp, ast.UnaryOp, ast.Lambda, ast.IfExp, ast.Dict, ast.ListComp, ast.Compare,
               ast.Call, ast.FormattedValue, ast.JoinedStr, ast.Constant, ast.Attribute, ast.Subscript, ast.Name,
               ast.List, ast.Tuple, ast.Slice)


def called(node):
    return node.func.id if isinstance(node, ast.Call) and isinstance(node.func, ast.Name) else None


def is_plain(node):
    if isinstance(node, ast.UnaryOp):
        return isinstance(node.op, ast.USub) and is_plain(node.operand)
    if isinstance(node, (ast.List, ast.Tuple)):
        return all(is_plain(one) for one in node.elts)
    if isinstance(node, ast.Dict):
        return all(is_plain(one) for one in node.keys + node.values)
    return isinstance(node, (ast.Constant, ast.Name))


def bound_names(tree):
    names = []
    for node in ast.walk(tree):
        if isinstance(node, (ast.FunctionDef, ast.ClassDef)):
            names.append(node.name)
        elif isinstance(node, ast.arg):
            names.append(node.arg)
        elif isinstance(node, ast.Name) and isinstance(node.ctx, ast.Store):
            names.append(node.id)
        elif isinstance(node, ast.ExceptHandler) and node.name:
            names.append(node.name)
        elif isinstance(node, ast.alias):
            names.append(node.asname or node.name)
    return names


def top_names(tree):
    names = []
    for node in tree.body:
        if isinstance(node, (ast.FunctionDef, ast.ClassDef)):
            names.append(node.name)
        elif isinstance(node, ast.Assign):
            names.append(node.targets[0].id)
        elif isinstance(node, ast.ImportFrom):
            names.extend(alias.name for alias in node.names)
    return names


def text_faults(text):
    for number, line in enumerate(text.split("\n"), 1):
        if len(line) > 120:
            yield number, "L10 long line"
        if any(not " " <= sign <= "~" for sign in line):
            yield number, "L14 sign"
        if NO_WORDS.search(line):
            yield number, "L17 word"
    if text.count("\n") > 400:
        yield 400, "L10 long file"


def top_faults(tree):
    for at, node in enumerate(tree.body):
        if isinstance(node, ast.Expr):
            if at != 0 or not isinstance(node.value, ast.Constant):
                yield node.lineno, "L3 top"
        elif isinstance(node, ast.Assign):
            if not (len(node.targets) == 1 and isinstance(node.targets[0], ast.Name) and is_plain(node.value)):
                yield node.lineno, "L3 top"
        elif not isinstance(node, (ast.ImportFrom, ast.FunctionDef, ast.ClassDef)):
            yield node.lineno, "L3 top"
    names = top_names(tree)
    for name in names:
        if names.count(name) > 1:
            yield 1, f"L15 {name} bound twice"


def name_faults(tree):
    bound = bound_names(tree)
    for name in bound:
        if not re.fullmatch(r"[A-Za-z][A-Za-z0-9_]*", name) and name != "__init__":
            yield 1, f"L12 {name}"
        if name in NO_NAMES or name in dir(builtins):
            yield 1, f"L15 or L17 {name}"
    tops = [node.name for node in tree.body if isinstance(node, ast.ClassDef)]
    tops += [alias.name for node in tree.body if isinstance(node, ast.ImportFrom) for alias in node.names]
    for name in tops:
        if bound.count(name) > 1:
            yield 1, f"L15 {name} hidden"
    for node in ast.walk(tree):
        if isinstance(node, ast.Name) and node.id not in OWN_NAMES and node.id not in bound:
            yield node.lineno, f"L8 {node.id}"


def def_faults(node):
    if isinstance(node, (ast.FunctionDef, ast.Lambda)):
        given = node.args
        if given.vararg or given.kwarg or given.kwonlyargs or given.posonlyargs:
            yield "L4 parameters"
        if not all(is_plain(one) for one in given.defaults):
            yield "L4 default"
        if any(one.annotation for one in given.args):
            yield "L21 annotation"
    if isinstance(node, ast.FunctionDef):
        if node.end_lineno - node.lineno >= 40:
            yield "L10 long function"
        if node.returns:
            yield "L21 annotation"
    if isinstance(node, (ast.FunctionDef, ast.ClassDef)) and node.decorator_list:
        yield "L4 or L5 decorator"
    if isinstance(node, ast.ClassDef):
        if len(node.bases) > 1 or node.keywords:
            yield "L5 base"
        if not all(isinstance(one, (ast.FunctionDef, ast.Pass)) for one in node.body):
            yield "L5 class body"


def statement_faults(node, parent):
    if isinstance(node, ast.stmt) and not isinstance(node, STATEMENTS):
        yield "L6 statement"
    if isinstance(node, ast.ImportFrom):
        if node.level or not node.module.startswith("shapeorders."):
            yield "L2 import"
        if not isinstance(parent, ast.Module) or any(one.name == "*" or one.asname for one in node.names):
            yield "L2 import"
    if isinstance(node, ast.Assign) and (len(node.targets) > 1):
        yield "L6 targets"
    if isinstance(node, (ast.For, ast.While)) and node.orelse:
        yield "L6 else behind a loop"
    if isinstance(node, ast.Try) and node.finalbody:
        yield "L6 finally"
    if isinstance(node, ast.Expr) and not isinstance(node.value, ast.Call) and not isinstance(parent, ast.Module):
        yield "L6 a value by itself"
    if isinstance(node, ast.ExceptHandler):
        if node.type is None or (isinstance(node.type, ast.Name) and node.type.id in {"Exception", "TypeError"}):
            yield "L19 except"
    if isinstance(node, ast.Raise) and not isinstance(node.exc, ast.Call):
        yield "L19 raise"
    if isinstance(node, ast.ClassDef) and not isinstance(parent, ast.Module):
        yield "L15 class"


def value_faults(node):
    if isinstance(node, ast.expr) and not isinstance(node, EXPRESSIONS):
        yield "L7 expression"
    if isinstance(node, ast.Constant):
        if isinstance(node.value, (float, complex, bytes)) or node.value is Ellipsis:
            yield "L7 value"
        if isinstance(node.value, str) and "%" in node.value:
            yield "L27 text"
    if isinstance(node, (ast.BinOp, ast.AugAssign)) and isinstance(node.op, (ast.Div, ast.MatMult)):
        yield "L7 operator"
    if isinstance(node, (ast.BinOp, ast.AugAssign)) and isinstance(node.op, ast.Pow):
        power = node.right if isinstance(node, ast.BinOp) else node.value
        if not (isinstance(power, ast.Constant) and power.value in range(65)):
            yield "L27 power"
    if isinstance(node, ast.ListComp) and (len(node.generators) > 1 or len(node.generators[0].ifs) > 1):
        yield "L7 comprehension"
    if isinstance(node, ast.Compare) and any(isinstance(op, (ast.Is, ast.IsNot)) for op in node.ops):
        sides = [node.left] + node.comparators
        if not any(isinstance(one, ast.Constant) and one.value in (None, True, False) for one in sides):
            yield "L20 is"


def call_faults(node, parent):
    if isinstance(node, ast.Attribute):
        if node.attr not in METHODS or not (isinstance(parent, ast.Call) and parent.func is node):
            yield "L25 method"
    if isinstance(node, ast.Name) and node.id in OWN_NAMES - ERRORS and called(parent) != node.id:
        if not (isinstance(parent, (ast.keyword, ast.Tuple)) or called(parent) == "isinstance"):
            yield "L22 kept"
    if called(node) in WALKED:
        walked = isinstance(parent, (ast.For, ast.comprehension)) and parent.iter is node
        if not walked and not (called(parent) in WALKERS and parent.args[0] is node):
            yield "L23 not walked at once"
    if called(node) == "set" and not isinstance(parent, (ast.Compare, ast.BinOp)):
        if called(parent) not in {"len", "sorted"}:
            yield "L24 set"


def faults(text):
    found = list(text_faults(text))
    tree = ast.parse(text)
    found += list(top_faults(tree))
    if not found:
        found += list(name_faults(tree))
    for parent in ast.walk(tree):
        for node in ast.iter_child_nodes(parent):
            line = getattr(node, "lineno", 0)
            for group in [def_faults(node), statement_faults(node, parent), value_faults(node),
                          call_faults(node, parent)]:
                found += [(line, words) for words in group]
    return found


def package_files():
    return sorted(path for path in PACKAGE.rglob("*") if "__pycache__" not in path.parts)


class Language(unittest.TestCase):
    def test_files(self):
        names = [path.name for path in package_files()]
        self.assertIn("__init__.py", names)
        for name in names:
            self.assertRegex(name, r"^([a-z][a-z0-9_]*|__init__|__main__)\.py$")
            self.assertNotRegex(name, r"^(test|tests|testing|test_.*|site|conftest)\.py$")
            self.assertNotIn(name[:-3], dir(builtins))

    def test_each_file(self):
        for path in package_files():
            self.assertEqual(faults(path.read_bytes().decode("utf-8")), [], path.name)

    def test_imports_come_from_where_a_name_is_defined(self):
        drawn = {}
        for path in package_files():
            tree = ast.parse(path.read_text())
            drawn[path.stem] = []
            for node in tree.body:
                if isinstance(node, ast.ImportFrom):
                    source = node.module.split(".")[1]
                    drawn[path.stem].append(source)
                    held = ast.parse((PACKAGE / (source + ".py")).read_text())
                    held.body = [one for one in held.body if not isinstance(one, ast.ImportFrom)]
                    for alias in node.names:
                        self.assertIn(alias.name, top_names(held), path.name)
        self.assertEqual(drawn["__init__"], [])
        self.assert_no_ring(drawn)

    def assert_no_ring(self, drawn):
        left = dict(drawn)
        while left:
            free = [name for name in left if not any(source in left for source in left[name])]
            self.assertTrue(free, left)
            left = {name: left[name] for name in left if name not in free}


class TheCheckItself(unittest.TestCase):
    def test_code_outside_the_rules_is_found(self):
        for code in ["import os", "from shapeorders.errors import *", "x = len('a')", "x = 1\nx = 2", "x = {1, 2, 3}",
                     "def f(*a):\n    pass", "def f(a):\n    assert a", "def f(a):\n    return a / 2",
                     "def f(a):\n    return open(a)", "def f(a):\n    a.sort()", "def f(a):\n    return 2 ** a",
                     "def f(a):\n    return (b for b in a)", "def f(a):\n    b = range(a)\n    return b",
                     "def f(a):\n    b = set(a)\n    return b", "def f(a):\n    return a is 3",
                     "def f(a):\n    b = c = a\n    return b + c", "def f(_a):\n    pass", "def f(map):\n    pass",
                     "def f(a: int):\n    return a", "class A:\n    x = 1", "# a type", "x = '\u00e4'", "\tx = 1",
                     "def f(a):\n    return [b + c for b in a for c in a]", "def f(a):\n    'words'\n    return a"]:
            with self.subTest(code=code):
                try:
                    found = faults(code)
                except SyntaxError:
                    found = ["no Python"]
                self.assertNotEqual(found, [])

    def test_code_within_the_rules_is_not(self):
        code = ('"""Words."""\n\nfrom shapeorders.errors import NoRow\n\nMOST = 3\n\n\ndef told(row):\n'
                '    if len(set(row)) != len(row):\n        raise NoRow("words")\n'
                '    return [row.index(k) for k in range(len(row)) if k < MOST]\n')
        self.assertEqual(faults(code), [])


if __name__ == "__main__":
    unittest.main()
