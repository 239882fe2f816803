"""The form of the package: a part of what LANGUAGE.md asks, the part that is easily seen line by line.

Looked at are L1 to L8, L10, L12, L14, L17, L20, L21, L23 to L25 and L27; of L15 that names are bound once at a file's
top, that lists and dicts there are only read, and no local is called like one of Python's own, an import or a class; of
L16 where names are drawn from; of L18 where classes stand; of L18 and L26 the names of methods and values; of L19 what
is never taken; of L22 keywords; of L28 `__init__`. Each is looked at as far as it goes without a reader. The other
rules, and the rest of these, are not looked at here.
"""

import ast
import builtins
import os
import re
import unittest

FOLDER = os.path.join(os.path.dirname(os.path.dirname(os.path.abspath(__file__))), "dealknot")

# L3 to L7, L21: a kind of node that is not here is outside the language.
NODES = """
    Module FunctionDef ClassDef arguments arg Lambda Return Assign AugAssign For While If Raise Try ExceptHandler Expr
    Pass Break Continue ImportFrom alias BoolOp And Or BinOp Add Sub Mult FloorDiv Mod Pow BitAnd BitOr BitXor LShift
    RShift UnaryOp Not USub UAdd Invert IfExp Dict Set List Tuple ListComp comprehension Compare Eq NotEq Lt LtE Gt GtE
    Is IsNot In NotIn Call keyword FormattedValue JoinedStr Constant Attribute Subscript Slice Name Load Store
""".split()

# L8, less chr (L27) and print (for a __main__.py alone).
OWN_NAMES = """
    len range enumerate zip min max sum abs sorted reversed int str bool list tuple dict set frozenset isinstance ord
    repr any all divmod Exception ValueError TypeError KeyError IndexError LookupError ZeroDivisionError
    ArithmeticError OverflowError RuntimeError NotImplementedError AttributeError StopIteration
""".split()

# L25
OWN_METHODS = """
    append clear copy count endswith extend find get index insert isalnum isalpha isdigit islower isspace isupper items
    join keys ljust lower lstrip partition pop remove replace reverse rfind rjust rpartition rsplit rstrip setdefault
    split splitlines startswith strip update upper values zfill bit_length
""".split()

# L5
SPECIAL = ["__init__", "__eq__", "__repr__", "__str__", "__len__"]

# L17
WORDS = """
    type typing typing_extensions enum Enum IntEnum StrEnum Flag IntFlag Generic Protocol ABC ABCMeta namedtuple
    NamedTuple TypedDict TYPE_CHECKING abstractmethod
""".split()
PARTS = ["dataclass", "overload", "contextmanager"]
NOT_USED = """
    register mro elements open input version_info with_traceback add_note attrgetter breakpoint builtins compile
    copyright credits delattr dir eval exec exit gc getattr globals hasattr help id importlib license locals
    methodcaller os quit setattr super vars sys
""".split()

# L23
WALKED_NAMES = ["zip", "enumerate", "reversed", "range"]
WALKED_METHODS = ["items", "keys", "values"]
WALKERS = ["list", "tuple", "dict", "sorted", "sum", "any", "all", "enumerate", "zip"]

# L15
READS = ["get", "items", "keys", "values", "index", "count"]

# L22
KEYWORDS = {"sorted": ["key", "reverse"], "min": ["key", "default"], "max": ["key", "default"], "sum": ["start"],
            "enumerate": ["start"], "zip": ["strict"]}

# L26
VALUES = "count index title find get join lower upper split strip copy add".split()
METHODS = OWN_METHODS + ["add", "discard"]


def faults_of_lines(lines):
    if len(lines) > 400:
        yield 401, "L10: more than 400 lines"
    for number, line in enumerate(lines, start=1):
        if len(line) > 120:
            yield number, "L10: more than 120 signs"
        if not all(" " <= sign <= "~" for sign in line):
            yield number, "L14: a sign"
        if any(word in WORDS for word in re.findall(r"\w+", line)) or any(part in line for part in PARTS):
            yield number, "L17: a word"


def bound_names(tree):
    for node in ast.walk(tree):
        if isinstance(node, (ast.FunctionDef, ast.ClassDef)):
            yield node, node.name
        elif isinstance(node, ast.arg):
            yield node, node.arg
        elif isinstance(node, ast.Name) and isinstance(node.ctx, ast.Store):
            yield node, node.id
        elif isinstance(node, ast.alias):
            yield node, node.asname or node.name
        elif isinstance(node, ast.ExceptHandler) and node.name:
            yield node, node.name


def faults_of_names(tree):
    for node, name in bound_names(tree):
        if name in SPECIAL:
            continue
        if name.startswith("_") or name in NOT_USED or name in dir(builtins):
            yield node.lineno, "L12, L15, L17: the name " + name
    bound = [name for node, name in bound_names(tree)]
    attributes = [node for node in ast.walk(tree) if isinstance(node, ast.Attribute)]
    values = [node.attr for node in attributes if isinstance(node.ctx, ast.Store)]
    for node in ast.walk(tree):
        if isinstance(node, ast.Name) and node.id not in bound + OWN_NAMES:
            yield node.lineno, "L8: the name " + node.id
    for node in attributes:
        # What a class of another file has is not known here, so only names of Python's own are looked at.
        if node.attr not in bound + values + OWN_METHODS + SPECIAL:
            if any(hasattr(kind, node.attr) for kind in [str, int, list, tuple, dict, set]):
                yield node.lineno, "L25: the method " + node.attr


def faults_of_def(node):
    if node.decorator_list:
        yield "L4, L5: a decorator"
    if isinstance(node, ast.FunctionDef):
        if node.end_lineno - node.lineno >= 40:
            yield "L10: more than 40 lines"
        if node.returns or any(one.annotation for one in node.args.args):
            yield "L21: an annotation"
    elif len(node.bases) > 1 or node.keywords:
        yield "L5: bases"
    elif not all(isinstance(part, (ast.FunctionDef, ast.Pass)) for part in node.body):
        yield "L5: a class body"


def faults_of_node(node):
    if node.__class__.__name__ not in NODES:
        yield "L6, L7: " + node.__class__.__name__
    elif isinstance(node, (ast.FunctionDef, ast.ClassDef)):
        yield from faults_of_def(node)
    elif isinstance(node, ast.ImportFrom):
        if node.level or not node.module.startswith("dealknot.") or node.names[0].name == "*":
            yield "L2, L16: an import"
    elif isinstance(node, ast.arguments):
        if node.vararg or node.kwarg or node.kwonlyargs or node.posonlyargs:
            yield "L4: parameters"
    elif isinstance(node, ast.Constant):
        if not isinstance(node.value, (int, str, type(None))):
            yield "L7: a value"
        if isinstance(node.value, str) and "%" in node.value:
            yield "L27: a sign in a text"
    elif isinstance(node, ast.Assign) and len(node.targets) > 1:
        yield "L6: targets"
    elif isinstance(node, (ast.For, ast.While)) and node.orelse:
        yield "L6: an else behind a loop"
    elif isinstance(node, ast.Try) and node.finalbody:
        yield "L6: finally"
    elif isinstance(node, ast.Expr) and not isinstance(node.value, ast.Call):
        yield "L6: no call by itself"
    elif isinstance(node, ast.ListComp) and (len(node.generators) > 1 or len(node.generators[0].ifs) > 1):
        yield "L7: a comprehension"
    elif isinstance(node, ast.Compare) and any(isinstance(sign, (ast.Is, ast.IsNot)) for sign in node.ops):
        if not isinstance(node.comparators[-1], ast.Constant) or node.comparators[-1].value not in [None, True, False]:
            yield "L20: is"
    elif isinstance(node, ast.BinOp) and isinstance(node.op, ast.Pow):
        if not isinstance(node.right, ast.Constant) or not 0 <= node.right.value <= 64:
            yield "L27: an exponent"


def called_name(node):
    """The name of what a call calls, where it is a plain name."""
    return node.func.id if isinstance(node, ast.Call) and isinstance(node.func, ast.Name) else None


def is_walked(node, above):
    if isinstance(above, (ast.For, ast.comprehension)):
        return above.iter is node
    if not isinstance(above, ast.Call) or not above.args or above.args[0] is not node:
        return False
    if isinstance(above.func, ast.Attribute):
        return above.func.attr == "join" and isinstance(above.func.value, ast.Constant)
    return called_name(above) in WALKERS or (called_name(above) in ["min", "max"] and len(above.args) == 1)


def is_set_in_its_place(node, parents):
    above = parents[node]
    if isinstance(above, ast.BinOp):
        return is_set_in_its_place(above, parents)
    if isinstance(above, ast.Compare):
        return all(isinstance(sign, (ast.In, ast.NotIn, ast.Eq, ast.NotEq)) for sign in above.ops)
    return called_name(above) in ["sorted", "len"] and len(above.args) == 1 and not above.keywords


def parents_in(tree):
    return {below: above for above in ast.walk(tree) for below in ast.iter_child_nodes(above)}


def faults_of_places(tree):
    parents = parents_in(tree)
    for node in ast.walk(tree):
        if isinstance(node, ast.Call):
            name = called_name(node)
            method = node.func.attr if isinstance(node.func, ast.Attribute) else None
            if (name in WALKED_NAMES or method in WALKED_METHODS) and not is_walked(node, parents[node]):
                yield node.lineno, "L23: kept, not walked"
            if name in ["set", "frozenset"] and not is_set_in_its_place(node, parents):
                yield node.lineno, "L24: a set"
            if name in OWN_NAMES and any(word.arg not in KEYWORDS.get(name, []) for word in node.keywords):
                yield node.lineno, "L22: a keyword"
        elif isinstance(node, ast.Set):
            yield node.lineno, "L13, L24: a set"
        elif isinstance(node, ast.FormattedValue):
            if not isinstance(node.value, ast.Name) or node.conversion not in [-1, ord("r")] or node.format_spec:
                yield node.lineno, "L7: an f-string"
        elif isinstance(node, ast.ExceptHandler):
            if node.type is None or any(getattr(one, "id", "") in ["Exception", "TypeError"]
                                        for one in ast.walk(node.type)):
                yield node.lineno, "L19: what is taken"


def names_at_the_top(tree):
    for node in tree.body:
        if isinstance(node, (ast.FunctionDef, ast.ClassDef)):
            yield node.name
        elif isinstance(node, ast.ImportFrom):
            yield from (alias.asname or alias.name for alias in node.names)
        elif isinstance(node, ast.Assign):
            yield from (target.id for target in node.targets if isinstance(target, ast.Name))


def faults_of_binding(tree):
    top = list(names_at_the_top(tree))
    if len(top) != len(set(top)):
        yield 0, "L15: a name bound twice"
    taken = [alias.name for node in tree.body if isinstance(node, ast.ImportFrom) for alias in node.names]
    taken.extend(node.name for node in ast.walk(tree) if isinstance(node, ast.ClassDef))
    for node in ast.walk(tree):
        if isinstance(node, (ast.FunctionDef, ast.Lambda)):
            body = node.body if isinstance(node, ast.FunctionDef) else []
            inside = list(bound_names(node.args)) + [pair for part in body for pair in bound_names(part)]
            yield from ((node.lineno, "L15: the local " + name) for part, name in inside if name in taken)
        elif isinstance(node, ast.ClassDef):
            names = [part.name for part in node.body if isinstance(part, ast.FunctionDef)]
            if len(names) != len(set(names)):
                yield node.lineno, "L18: a method twice"


def is_plain_value(node, functions):
    if isinstance(node, (ast.List, ast.Tuple)):
        return all(is_plain_value(part, functions) for part in node.elts)
    if isinstance(node, ast.Dict):
        return all(is_plain_value(part, functions) for part in node.keys + node.values)
    if isinstance(node, ast.UnaryOp):
        return isinstance(node.op, ast.USub) and isinstance(node.operand, ast.Constant)
    return isinstance(node, ast.Constant) or (isinstance(node, ast.Name) and node.id in functions)


def faults_of_top(tree):
    functions, kept, parents = [], [], parents_in(tree)
    for node in tree.body:
        if isinstance(node, ast.FunctionDef):
            functions.append(node.name)
        elif isinstance(node, ast.Assign):
            if not is_plain_value(node.value, functions):
                yield node.lineno, "L3: a value of the file's top"
            if isinstance(node.value, (ast.List, ast.Dict)):
                kept.extend(target.id for target in node.targets)
                if any(isinstance(part, (ast.List, ast.Dict)) for part in list(ast.walk(node.value))[1:]):
                    yield node.lineno, "L15: a list or dict within one"
        elif not isinstance(node, (ast.ImportFrom, ast.ClassDef)):
            yield node.lineno, "L3: what stands at the file's top"
    for node in ast.walk(tree):
        if isinstance(node, ast.Name) and node.id in kept and isinstance(node.ctx, ast.Load):
            if not is_read_alone(node, parents[node], parents):
                yield node.lineno, "L15: not read alone: " + node.id


def is_read_alone(node, above, parents):
    if isinstance(above, ast.Subscript):
        return above.value is node and isinstance(above.ctx, ast.Load)
    if isinstance(above, ast.Attribute):
        return isinstance(parents[above], ast.Call) and above.attr in READS
    if isinstance(above, ast.Call):
        return called_name(above) in ["len", "sorted", "list", "dict", "tuple", "sum", "min", "max", "enumerate"]
    return isinstance(above, (ast.Compare, ast.For, ast.comprehension))


def is_class_in_its_place(node, parents):
    above = parents[node]
    if isinstance(above, ast.Tuple):
        node, above = above, parents[above]
        return isinstance(above, ast.ExceptHandler) or (called_name(above) == "isinstance" and above.args[1] is node)
    if isinstance(above, ast.Call):
        return above.func is node or (called_name(above) == "isinstance" and above.args[1] is node)
    if isinstance(above, ast.Attribute):
        return above.attr == "__init__"
    return isinstance(above, (ast.ClassDef, ast.ExceptHandler))


def faults_of_class_places(tree):
    parents = parents_in(tree)
    for node in ast.walk(tree):
        # In this package the names of classes alone begin with a great letter and go on with a small one.
        if isinstance(node, ast.Name) and re.match("[A-Z][a-z]", node.id) and not is_class_in_its_place(node, parents):
            yield node.lineno, "L18: where the class stands: " + node.id


def methods_and_values(tree):
    methods, values = set(), set()
    for node in ast.walk(tree):
        if isinstance(node, ast.ClassDef):
            methods |= {part.name for part in node.body if isinstance(part, ast.FunctionDef)} - set(SPECIAL)
        elif isinstance(node, ast.Attribute) and isinstance(node.ctx, ast.Store):
            values.add(node.attr)
    return methods, values


def faults_of_classes(tree):
    methods, values = methods_and_values(tree)
    theirs = {name for kind in [str, int, list, tuple, dict, set, bytes] for name in dir(kind)}
    yield from ((0, "L26: the method " + name) for name in sorted(methods & theirs - set(METHODS)))
    yield from ((0, "L26: the value " + name) for name in sorted(values & (theirs | {"args"}) - set(VALUES)))
    for node in ast.walk(tree):
        if isinstance(node, ast.FunctionDef) and node.name == "__init__":
            if any(isinstance(part, ast.Return) and part.value is not None for part in ast.walk(node)):
                yield node.lineno, "L28: what __init__ gives back"


def drawn_from(tree):
    drawn = {}
    for node in tree.body:
        if isinstance(node, ast.ImportFrom):
            names = drawn.setdefault(node.module.removeprefix("dealknot."), [])
            names.extend(alias.name for alias in node.names)
    return drawn


def faults_of_package(trees):
    """L16 and L18, as far as they go beyond one file; of a dict from file names without their end to trees."""
    for name, tree in trees.items():
        for other, drawn in drawn_from(tree).items():
            own = [node for node in trees[other].body if not isinstance(node, ast.ImportFrom)]
            defined = list(names_at_the_top(ast.Module(own, [])))
            yield from (name + ": L16: " + one + " of " + other for one in drawn if one not in defined)
    # What draws from nothing that is left is taken away until nothing can be: those that stay draw from one another.
    left = {name: set(drawn_from(tree)) for name, tree in trees.items()}
    while any(not drawn & set(left) for drawn in left.values()):
        left = {name: drawn for name, drawn in left.items() if drawn & set(left)}
    yield from (name + ": L16: a ring of files" for name in left)
    pairs = [methods_and_values(tree) for tree in trees.values()]
    both = set().union(*[pair[0] for pair in pairs]) & set().union(*[pair[1] for pair in pairs])
    yield from ("L18: a method and a value " + name for name in sorted(both))


def faults_of(text):
    faults = list(faults_of_lines(text.removesuffix("\n").split("\n")))
    tree = ast.parse(text)
    if ast.get_docstring(tree) is not None:
        tree.body = tree.body[1:]
    for look in [faults_of_names, faults_of_places, faults_of_binding, faults_of_top, faults_of_class_places,
                 faults_of_classes]:
        faults.extend(look(tree))
    for node in ast.walk(tree):
        faults.extend((getattr(node, "lineno", 0), fault) for fault in faults_of_node(node))
    return faults


class Form(unittest.TestCase):
    def test_the_folder_holds_plain_files_alone(self):
        names = [name for name in os.listdir(FOLDER) if name != "__pycache__"]
        self.assertIn("__init__.py", names)
        for name in names:
            self.assertTrue(name == "__init__.py" or re.fullmatch(r"[a-z][a-z0-9_]*\.py", name), name)

    def texts(self):
        told = {}
        for name in sorted(os.listdir(FOLDER)):
            if name.endswith(".py"):
                with open(os.path.join(FOLDER, name), newline="", encoding="utf-8") as file:
                    told[name.removesuffix(".py")] = file.read()
        return told

    def test_each_file_keeps_to_the_language(self):
        for name, text in self.texts().items():
            with self.subTest(name):
                self.assertEqual(faults_of(text), [])

    def test_the_files_keep_to_it_together(self):
        self.assertEqual(list(faults_of_package({name: ast.parse(text) for name, text in self.texts().items()})), [])

    def test_wrong_packages_have_a_fault(self):
        value = "class A:\n    def __init__(self):\n        self.one = 1\n"
        wrong = [
            {"a": "from dealknot.b import one", "b": "two = 1"},
            {"a": "from dealknot.b import one", "b": "from dealknot.c import one", "c": "one = 1"},
            {"a": "from dealknot.b import one\ntwo = 1", "b": "from dealknot.a import two\none = 1"},
            {"a": value, "b": "class B:\n    def one(self):\n        pass\n"}]
        for texts in wrong:
            with self.subTest(texts):
                trees = {name: ast.parse(text) for name, text in texts.items()}
                self.assertNotEqual(list(faults_of_package(trees)), [])
                self.assertEqual([faults_of(text) for text in texts.values()], [[] for text in texts])

    def test_right_code_has_no_fault(self):
        right = '"""Words."""\n\nfrom dealknot.errors import NoName\n\nLETTERS = "ab"\n\n\n' \
                "def told(one, key=None):\n    if key is None:\n        raise NoName(\"words\")\n" \
                "    return sorted([10 ** 60 for a, b in one.items() if a in LETTERS])\n\n\n" \
                "class Kept:\n    def __init__(self, one):\n        self.one = dict(list(one.items()))\n\n" \
                "    def others(self, many):\n        told = sorted(set(self.one) - set(many))\n" \
                "        return [f\"{name} {name!r}\" for name in told if name not in set(many)]\n\n\n" \
                "CALLS = {\"told\": told, \"again\": told}\n\n\n" \
                "def called(word, one):\n    if word in CALLS and not isinstance(one, (Kept, NoName)):\n" \
                "        return CALLS[word](Kept(one).one)\n    return sorted(CALLS) + [CALLS.get(word)]\n"
        self.assertEqual(faults_of(right), [])

    def test_wrong_code_has_one(self):
        wrong = [
            "import re", "from re import sub", "from . import errors", "from dealknot.errors import *",
            "a = b = 1", "a = 1.5", "a = 1 / 2", "a = b'x'", "a = {x for x in [1]}", "a = {1: 2 for x in [1]}",
            "a = [x for x in [1] for y in [2]]", "a = '5%'", "a = 'type'", "a = 1  # an Enum", "a = '\t'", "a = 1\r",
            "a = 2 ** b", "a = 2 ** 65", "a = chr(3)", "a = open('x')", "a = getattr(1, 'real')", "a = _b", "_b = 1",
            "list = [1]", "a = 'x'.title()", "a = [1].sort()", "a = 1 is 2", "a = (b := 1)", "assert True",
            "def f(*a):\n    pass", "def f(**a):\n    pass", "def f(a, *, b):\n    pass", "def f():\n    'words'",
            "def f():\n    yield 1", "def f():\n    global a", "def f(a: int):\n    pass", "def f(id):\n    pass",
            "def f():\n" + "    pass\n" * 40, "class A:\n    a = 1", "class A(ValueError, KeyError):\n    pass",
            "for a in [1]:\n    pass\nelse:\n    pass", "try:\n    pass\nfinally:\n    pass", "a = 1\n" * 401,
            "a = 1  # " + "x" * 120, "with a:\n    pass", "del a", "print(1)",
            "a = {}.items()", "a = [].extend({}.values())", "a = zip([], [])", "a = len(range(3))", "a = set()",
            "a = [x for x in set([1])]", "a = set([1]) | set([2])", "a = sorted(set([1]), reverse=True)", "a = {1, 2}",
            "a = int('1', base=3)", "a = 1\na = 2", "a = 1\nb = f'{a + 1}'", "a = 1\nb = f'{a!s}'",
            "a = 1\nb = f'{a:3}'", "try:\n    pass\nexcept:\n    pass", "try:\n    pass\nexcept Exception:\n    pass",
            "try:\n    pass\nexcept (KeyError, TypeError):\n    pass", "class A:\n    def sort(self):\n        pass",
            "class A:\n    def __init__(self):\n        self.items = 1",
            "class A:\n    def __init__(self):\n        return None",
            "class A:\n    def b(self):\n        pass\n\n    def b(self):\n        pass",
            "from dealknot.a import b\n\n\ndef c():\n    b = 1\n    return b",
            "from dealknot.a import b\n\n\ndef c(b):\n    return b", "from dealknot.a import b\nc = lambda b: b",
            "class A:\n    pass\n\n\ndef c():\n    return [A for A in [1]]",
            "a = b\n\n\ndef b():\n    pass", "a = [1 + 2]", "a = {'b': [1]}", "a = [{}]", "a = len('b')",
            "if True:\n    pass", "a = [1]\n\n\ndef b():\n    a.append(2)", "a = {}\n\n\ndef b():\n    a[1] = 2",
            "a = {}\n\n\ndef b():\n    return a", "a = [1]\n\n\ndef b(c):\n    return c(a)",
            "a = {}\n\n\ndef b():\n    a.update({})", "from dealknot.a import Bc\n\n\ndef d():\n    return [Bc]",
            "from dealknot.a import Bc\n\n\ndef d(e):\n    return e(Bc)",
            "from dealknot.a import Bc\n\n\ndef d(e):\n    return isinstance(Bc, e)",
            "from dealknot.a import Bc\n\n\ndef d():\n    Bc.e = 1", "from dealknot.a import Bc\n\nE = {'b': Bc}"]
        for text in wrong:
            with self.subTest(text[:60]):
                self.assertNotEqual(faults_of(text), [])


if __name__ == "__main__":
    unittest.main()
