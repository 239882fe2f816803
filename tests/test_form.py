"""The form of the package: a part of what LANGUAGE.md asks, the part that is easily seen line by line.

Looked at are L1, L2, L4 to L8, L10, L12, L14, L17, L20, L21, L25 and L27, and of L15 that no name is called like one
of Python's own, each as far as it goes without a reader. The other rules, and the rest of these, are not looked at here.
"""

import ast
import builtins
import os
import re
import unittest

FOLDER = os.path.join(os.path.dirname(os.path.dirname(os.path.abspath(__file__))), "dealknot")

# L3 to L7, L21: a kind of node that is not here is outside the language.
NODES = """
    Module FunctionDef ClassDef arguments arg Lambda Return Assign AugAssign For While If Raise Try ExceptHandler Expr
    Pass Break Continue ImportFrom alias BoolOp And Or BinOp Add Sub Mult FloorDiv Mod Pow BitAnd BitOr BitXor LShift
    RShift UnaryOp Not USub UAdd Invert IfExp Dict Set List Tuple ListComp comprehension Compare Eq NotEq Lt LtE Gt GtE
    Is IsNot In NotIn Call keyword FormattedValue JoinedStr Constant Attribute Subscript Slice Name Load Store
""".split()

# L8, less chr (L27) and print (for a __main__.py alone).
OWN_NAMES = """
    len range enumerate zip min max sum abs sorted reversed int str bool list tuple dict set frozenset isinstance ord
    repr any all divmod Exception ValueError TypeError KeyError IndexError LookupError ZeroDivisionError
    ArithmeticError OverflowError RuntimeError NotImplementedError AttributeError StopIteration
""".split()

# L25
OWN_METHODS = """
    append clear copy count endswith extend find get index insert isalnum isalpha isdigit islower isspace isupper items
    join keys ljust lower lstrip partition pop remove replace reverse rfind rjust rpartition rsplit rstrip setdefault
    split splitlines startswith strip update upper values zfill bit_length
""".split()

# L5
SPECIAL = ["__init__", "__eq__", "__repr__", "__str__", "__len__"]

# L17
WORDS = """
    type typing typing_extensions enum Enum IntEnum StrEnum Flag IntFlag Generic Protocol ABC ABCMeta namedtuple
    NamedTuple TypedDict TYPE_CHECKING abstractmethod
""".split()
PARTS = ["dataclass", "overload", "contextmanager"]
NOT_USED = """
    register mro elements open input version_info with_traceback add_note attrgetter breakpoint builtins compile
    copyright credits delattr dir eval exec exit gc getattr globals hasattr help id importlib license locals
    methodcaller os quit setattr super vars sys
""".split()


def faults_of_lines(lines):
    if len(lines) > 400:
        yield 401, "L10: more than 400 lines"
    for number, line in enumerate(lines, start=1):
        if len(line) > 120:
            yield number, "L10: more than 120 signs"
        if not all(" " <= sign <= "~" for sign in line):
            yield number, "L14: a sign"
        if any(word in WORDS for word in re.findall(r"\w+", line)) or any(part in line for part in PARTS):
            yield number, "L17: a word"


def bound_names(tree):
    for node in ast.walk(tree):
        if isinstance(node, (ast.FunctionDef, ast.ClassDef)):
            yield node, node.name
        elif isinstance(node, ast.arg):
            yield node, node.arg
        elif isinstance(node, ast.Name) and isinstance(node.ctx, ast.Store):
            yield node, node.id
        elif isinstance(node, ast.alias):
            yield node, node.asname or node.name
        elif isinstance(node, ast.ExceptHandler) and node.name:
            yield node, node.name


def faults_of_names(tree):
    for node, name in bound_names(tree):
        if name in SPECIAL:
            continue
        if name.startswith("_") or name in NOT_USED or name in dir(builtins):
            yield node.lineno, "L12, L15, L17: the name " + name
    bound = [name for node, name in bound_names(tree)]
    attributes = [node for node in ast.walk(tree) if isinstance(node, ast.Attribute)]
    values = [node.attr for node in attributes if isinstance(node.ctx, ast.Store)]
    for node in ast.walk(tree):
        if isinstance(node, ast.Name) and node.id not in bound + OWN_NAMES:
            yield node.lineno, "L8: the name " + node.id
    for node in attributes:
        # What a class of another file has is not known here, so only names of Python's own are looked at.
        if node.attr not in bound + values + OWN_METHODS + SPECIAL:
            if any(hasattr(kind, node.attr) for kind in [str, int, list, tuple, dict, set]):
                yield node.lineno, "L25: the method " + node.attr


def faults_of_def(node):
    if node.decorator_list:
        yield "L4, L5: a decorator"
    if isinstance(node, ast.FunctionDef):
        if node.end_lineno - node.lineno >= 40:
            yield "L10: more than 40 lines"
        if node.returns or any(one.annotation for one in node.args.args):
            yield "L21: an annotation"
    elif len(node.bases) > 1 or node.keywords:
        yield "L5: bases"
    elif not all(isinstance(part, (ast.FunctionDef, ast.Pass)) for part in node.body):
        yield "L5: a class body"


def faults_of_node(node):
    if node.__class__.__name__ not in NODES:
        yield "L6, L7: " + node.__class__.__name__
    elif isinstance(node, (ast.FunctionDef, ast.ClassDef)):
        yield from faults_of_def(node)
    elif isinstance(node, ast.ImportFrom):
        if node.level or not node.module.startswith("dealknot.") or node.names[0].name == "*":
            yield "L2, L16: an import"
    elif isinstance(node, ast.arguments):
        if node.vararg or node.kwarg or node.kwonlyargs or node.posonlyargs:
            yield "L4: parameters"
    elif isinstance(node, ast.Constant):
        if not isinstance(node.value, (int, str, type(None))):
            yield "L7: a value"
        if isinstance(node.value, str) and "%" in node.value:
            yield "L27: a sign in a text"
    elif isinstance(node, ast.Assign) and len(node.targets) > 1:
        yield "L6: targets"
    elif isinstance(node, (ast.For, ast.While)) and node.orelse:
        yield "L6: an else behind a loop"
    elif isinstance(node, ast.Try) and node.finalbody:
        yield "L6: finally"
    elif isinstance(node, ast.Expr) and not isinstance(node.value, ast.Call):
        yield "L6: no call by itself"
    elif isinstance(node, ast.ListComp) and (len(node.generators) > 1 or len(node.generators[0].ifs) > 1):
        yield "L7: a comprehension"
    elif isinstance(node, ast.Compare) and any(isinstance(sign, (ast.Is, ast.IsNot)) for sign in node.ops):
        if not isinstance(node.comparators[-1], ast.Constant) or node.comparators[-1].value not in [None, True, False]:
            yield "L20: is"
    elif isinstance(node, ast.BinOp) and isinstance(node.op, ast.Pow):
        if not isinstance(node.right, ast.Constant) or not 0 <= node.right.value <= 64:
            yield "L27: an exponent"


def faults_of(text):
    faults = list(faults_of_lines(text.removesuffix("\n").split("\n")))
    tree = ast.parse(text)
    if ast.get_docstring(tree) is not None:
        tree.body = tree.body[1:]
    faults.extend(faults_of_names(tree))
    for node in ast.walk(tree):
        faults.extend((getattr(node, "lineno", 0), fault) for fault in faults_of_node(node))
    return faults


class Form(unittest.TestCase):
    def test_the_folder_holds_plain_files_alone(self):
        names = [name for name in os.listdir(FOLDER) if name != "__pycache__"]
        self.assertIn("__init__.py", names)
        for name in names:
            self.assertTrue(name == "__init__.py" or re.fullmatch(r"[a-z][a-z0-9_]*\.py", name), name)

    def test_each_file_keeps_to_the_language(self):
        for name in sorted(os.listdir(FOLDER)):
            if name.endswith(".py"):
                with open(os.path.join(FOLDER, name), newline="", encoding="utf-8") as file:
                    text = file.read()
                with self.subTest(name):
                    self.assertEqual(faults_of(text), [])

    def test_right_code_has_no_fault(self):
        right = '"""Words."""\n\nfrom dealknot.errors import NoName\n\nLETTERS = "ab"\n\n\n' \
                "def told(one, key=None):\n    if key is None:\n        raise NoName(\"words\")\n" \
                "    return sorted([10 ** 60 for a, b in one.items() if a in LETTERS])\n"
        self.assertEqual(faults_of(right), [])

    def test_wrong_code_has_one(self):
        wrong = [
            "import re", "from re import sub", "from . import errors", "from dealknot.errors import *",
            "a = b = 1", "a = 1.5", "a = 1 / 2", "a = b'x'", "a = {x for x in [1]}", "a = {1: 2 for x in [1]}",
            "a = [x for x in [1] for y in [2]]", "a = '5%'", "a = 'type'", "a = 1  # an Enum", "a = '\t'", "a = 1\r",
            "a = 2 ** b", "a = 2 ** 65", "a = chr(3)", "a = open('x')", "a = getattr(1, 'real')", "a = _b", "_b = 1",
            "list = [1]", "a = 'x'.title()", "a = [1].sort()", "a = 1 is 2", "a = (b := 1)", "assert True",
            "def f(*a):\n    pass", "def f(**a):\n    pass", "def f(a, *, b):\n    pass", "def f():\n    'words'",
            "def f():\n    yield 1", "def f():\n    global a", "def f(a: int):\n    pass", "def f(id):\n    pass",
            "def f():\n" + "    pass\n" * 40, "class A:\n    a = 1", "class A(ValueError, KeyError):\n    pass",
            "for a in [1]:\n    pass\nelse:\n    pass", "try:\n    pass\nfinally:\n    pass", "a = 1\n" * 401,
            "a = 1  # " + "x" * 120, "with a:\n    pass", "del a", "print(1)"]
        for text in wrong:
            with self.subTest(text[:60]):
                self.assertNotEqual(faults_of(text), [])


if __name__ == "__main__":
    unittest.main()
