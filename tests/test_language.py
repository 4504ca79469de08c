"""The package keeps to those rules of the language that a test can see.

Each rule that's looked for is also shown a piece of code that breaks it.
"""

import ast
import builtins
import pathlib
import re
import unittest

PACKAGE = pathlib.Path(__file__).resolve().parent.parent / "ringmarket"

PLAIN = """len range enumerate zip min max sum abs sorted reversed int str bool list tuple dict set frozenset isinstance ord
repr any all divmod""".split()
ERRORS = """Exception ValueError TypeError KeyError IndexError LookupError ZeroDivisionError ArithmeticError OverflowError
RuntimeError NotImplementedError AttributeError StopIteration""".split()
METHODS = """append clear copy count endswith extend find get index insert isalnum isalpha isdigit islower isspace isupper
items join keys ljust lower lstrip partition pop remove replace reverse rfind rjust rpartition rsplit rstrip setdefault
split splitlines startswith strip update upper values zfill bit_length""".split()
UNUSED_ANYWHERE = "register mro elements open input version_info with_traceback add_note format format_map".split()
UNUSED_NAMES = """attrgetter breakpoint builtins compile copyright credits delattr dir eval exec exit gc getattr globals
hasattr help id importlib license locals methodcaller os quit setattr super type vars sys chr print""".split()
WORDS = """type typing typing_extensions enum Enum IntEnum StrEnum Flag IntFlag Generic Protocol ABC ABCMeta namedtuple
NamedTuple TypedDict TYPE_CHECKING abstractmethod""".split()
PARTS_OF_WORDS = ("dataclass", "overload", "contextmanager")
DUNDER_METHODS = ("__init__", "__eq__", "__repr__", "__str__", "__len__")

KEYWORDS = {"sorted": ("key", "reverse"), "min": ("key", "default"), "max": ("key", "default"), "sum": ("start",),
            "enumerate": ("start",), "zip": ("strict",)}
TAKE_A_ROW = "list tuple dict sorted sum any all enumerate zip min max".split()
CHANGE = "append clear extend insert pop remove reverse setdefault update".split()

STATEMENTS = (ast.Assign, ast.AugAssign, ast.If, ast.While, ast.For, ast.Return, ast.Break, ast.Continue, ast.Pass,
              ast.Raise, ast.Try, ast.Expr, ast.FunctionDef, ast.ClassDef, ast.ImportFrom)
NOT_EXPRESSIONS = (ast.SetComp, ast.DictComp, ast.GeneratorExp, ast.NamedExpr, ast.Starred, ast.Await, ast.Yield,
                   ast.YieldFrom, ast.Div, ast.MatMult)
OF_PYTHONS_VALUES = [name for kind in (str, int, list, dict, set, bytes, tuple) for name in dir(kind)]
ALLOWED_VALUES = "count index title find get join lower upper split strip copy add".split()


def signs(source, tree):
    if re.search("[^ -~\n]", source):
        yield "L14"
    for line in source.split("\n"):
        if len(line) > 120:
            yield "L10"
    if source.count("\n") > 400:
        yield "L10"
    found = re.findall("[A-Za-z0-9_]+", source)
    if any([word in WORDS for word in found]) or any([part in source for part in PARTS_OF_WORDS]):
        yield "L17"


def top(source, tree):
    bound = []
    for node in tree.body:
        if isinstance(node, ast.Assign):
            if not isinstance(node.targets[0], ast.Name) or not is_plain(node.value, bound):
                yield "L3"
            bound.append(getattr(node.targets[0], "id", ""))
            if isinstance(node.value, (ast.List, ast.Dict)):
                if [inner for inner in ast.walk(node.value) if isinstance(inner, (ast.List, ast.Dict))][1:]:
                    yield "L15"
        elif isinstance(node, (ast.FunctionDef, ast.ClassDef)):
            bound.append(node.name)
        elif isinstance(node, ast.ImportFrom):
            bound.extend([alias.name for alias in node.names])
        elif not (isinstance(node, ast.Expr) and node is tree.body[0] and isinstance(node.value, ast.Constant)):
            yield "L3"
    if len(set(bound)) < len(bound):
        yield "L15"
    for node in ast.walk(tree):
        if isinstance(node, (ast.FunctionDef, ast.Lambda)):
            imported = [alias.name for row in tree.body if isinstance(row, ast.ImportFrom) for alias in row.names]
            classes = [row.name for row in tree.body if isinstance(row, ast.ClassDef)]
            if any([name in imported + classes for name in locals_of(node)]):
                yield "L15"


def is_plain(node, bound):
    if isinstance(node, (ast.List, ast.Tuple)):
        return all([is_plain(inner, bound) for inner in node.elts])
    if isinstance(node, ast.Dict):
        return all([is_plain(inner, bound) for inner in node.keys + node.values])
    if isinstance(node, ast.UnaryOp):
        return isinstance(node.operand, ast.Constant)
    return isinstance(node, ast.Constant) or (isinstance(node, ast.Name) and node.id in bound)


def locals_of(node):
    names = [arg.arg for arg in node.args.args]
    for inner in ast.walk(node):
        if isinstance(inner, ast.Name) and isinstance(inner.ctx, ast.Store):
            names.append(inner.id)
    return names


def imports(source, tree):
    for node in ast.walk(tree):
        if isinstance(node, ast.Import):
            yield "L16"
        if isinstance(node, ast.ImportFrom):
            if node.level or not (node.module or "").startswith("ringmarket."):
                yield "L2"
            if any([alias.name == "*" or alias.asname for alias in node.names]) or node not in tree.body:
                yield "L2"


def statements(source, tree):
    for node in ast.walk(tree):
        if isinstance(node, ast.stmt) and not isinstance(node, STATEMENTS + (ast.Import,)):
            yield "L6"
        if isinstance(node, (ast.For, ast.While)) and node.orelse:
            yield "L6"
        if isinstance(node, ast.Try) and node.finalbody:
            yield "L6"
        if isinstance(node, ast.Assign) and (len(node.targets) > 1 or isinstance(node.targets[0], ast.Tuple)):
            yield "L6"
        if isinstance(node, ast.Expr) and not isinstance(node.value, (ast.Call, ast.Constant)):
            yield "L6"
        if isinstance(node, ast.ExceptHandler):
            caught = getattr(node.type, "id", "")
            if caught in ("", "Exception", "TypeError"):
                yield "L19"


def functions(source, tree):
    for node in ast.walk(tree):
        if isinstance(node, ast.FunctionDef):
            if node.end_lineno - node.lineno >= 40:
                yield "L10"
            given = node.args
            if given.vararg or given.kwarg or given.kwonlyargs or given.posonlyargs or node.decorator_list:
                yield "L4"
            if node.returns or any([arg.annotation for arg in given.args]):
                yield "L21"
        if isinstance(node, ast.ClassDef):
            if len(node.bases) > 1 or node.keywords or node.decorator_list:
                yield "L5"
            if not all([isinstance(row, (ast.FunctionDef, ast.Pass)) for row in node.body if not is_remark(row)]):
                yield "L5"


def is_remark(row):
    return isinstance(row, ast.Expr) and isinstance(row.value, ast.Constant) and isinstance(row.value.value, str)


def expressions(source, tree):
    for node in ast.walk(tree):
        if isinstance(node, NOT_EXPRESSIONS):
            yield "L7"
        if isinstance(node, ast.Constant) and isinstance(node.value, (float, complex, bytes)):
            yield "L7"
        if isinstance(node, ast.ListComp) and (len(node.generators) > 1 or len(node.generators[0].ifs) > 1):
            yield "L7"
        if isinstance(node, ast.Set) and len(node.elts) > 2:
            yield "L13"
        if isinstance(node, ast.Compare) and any([isinstance(sign, (ast.Is, ast.IsNot)) for sign in node.ops]):
            if not isinstance(node.comparators[0], ast.Constant) or node.comparators[0].value not in (None, True, False):
                yield "L20"
        if isinstance(node, ast.BinOp) and isinstance(node.op, ast.Pow) and not isinstance(node.right, ast.Constant):
            yield "L27"
        if isinstance(node, ast.Constant) and isinstance(node.value, str) and "%" in node.value:
            yield "L27"


def names(source, tree):
    for node in ast.walk(tree):
        if isinstance(node, ast.Name):
            if hasattr(builtins, node.id) and node.id not in PLAIN + ERRORS:
                yield "L8"
            if hasattr(builtins, node.id) and isinstance(node.ctx, ast.Store):
                yield "L15"
            if node.id in UNUSED_NAMES + UNUSED_ANYWHERE:
                yield "L17"
            if node.id.startswith("_"):
                yield "L12"
        if isinstance(node, ast.arg) and (hasattr(builtins, node.arg) or node.arg.startswith("_")):
            yield "L15"
        if isinstance(node, (ast.FunctionDef, ast.ClassDef)) and node.name not in DUNDER_METHODS:
            if node.name.startswith("_") or hasattr(builtins, node.name):
                yield "L12"


def attributes(source, tree):
    own = [node.name for node in ast.walk(tree) if isinstance(node, ast.FunctionDef)]
    called = [node.func for node in ast.walk(tree) if isinstance(node, ast.Call)]
    for node in ast.walk(tree):
        if isinstance(node, ast.Attribute):
            if node.attr in UNUSED_ANYWHERE:
                yield "L17"
            if node.attr.startswith("_") and node.attr not in DUNDER_METHODS:
                yield "L12"
            if isinstance(node.ctx, ast.Store) and node.attr in OF_PYTHONS_VALUES and node.attr not in ALLOWED_VALUES:
                yield "L26"
            if node in called and node.attr in OF_PYTHONS_VALUES and node.attr not in METHODS + own:
                yield "L25"


def sets_and_texts(source, tree):
    """This program needs no set at all, so that none is looked at more closely."""
    for node in ast.walk(tree):
        if isinstance(node, ast.Set) or (isinstance(node, ast.Name) and node.id in ("set", "frozenset")):
            yield "L24"
        if isinstance(node, ast.FormattedValue) and (not isinstance(node.value, ast.Name) or node.format_spec):
            yield "L7"


def keywords(source, tree):
    for node in ast.walk(tree):
        if isinstance(node, ast.Call):
            named = getattr(node.func, "id", getattr(node.func, "attr", ""))
            if hasattr(builtins, named) or named in METHODS:
                if any([word.arg not in KEYWORDS.get(named, ()) for word in node.keywords]):
                    yield "L22"


def not_called(source, tree):
    """Python's own functions are called where they stand, not kept."""
    called = [node.func for node in ast.walk(tree) if isinstance(node, ast.Call)]
    keys = [node.value for node in ast.walk(tree) if isinstance(node, ast.keyword) and node.arg == "key"]
    asked = [node for node in ast.walk(tree) if isinstance(node, ast.Call)
             and getattr(node.func, "id", "") == "isinstance"]
    kinds = [kind for node in asked for kind in ast.walk(node.args[1])]
    for node in ast.walk(tree):
        if isinstance(node, ast.Name) and node.id in PLAIN and node not in called + keys + kinds:
            yield "L22"
        if isinstance(node, ast.Attribute) and node.attr in METHODS and node not in called + keys:
            if node.attr not in ALLOWED_VALUES:
                yield "L25"


def walked(source, tree):
    """What's walked on the spot: a loop's row, or the first thing in one of Python's own that takes a row."""
    spots = [node.iter for node in ast.walk(tree) if isinstance(node, (ast.For, ast.comprehension))]
    for node in ast.walk(tree):
        if isinstance(node, ast.Call) and getattr(node.func, "id", "") in TAKE_A_ROW:
            spots.extend(node.args if node.func.id == "zip" else node.args[:1])
        if isinstance(node, ast.Call) and getattr(node.func, "attr", "") == "join":
            spots.extend(node.args)
    for node in ast.walk(tree):
        if isinstance(node, ast.Call) and node not in spots:
            if getattr(node.func, "id", "") in ("zip", "enumerate", "reversed", "range"):
                yield "L23"
            if getattr(node.func, "attr", "") in ("items", "keys", "values"):
                yield "L23"


def walked_and_changed(source, tree):
    """A loop's own row isn't changed in it, as far as it's written in the same words."""
    for loop in ast.walk(tree):
        if isinstance(loop, ast.For):
            row = loop.iter
            if isinstance(row, ast.Call) and isinstance(row.func, ast.Attribute) and not row.args:
                row = row.func.value
            elif isinstance(row, ast.Call) and getattr(row.func, "id", "") in ("enumerate", "zip", "reversed"):
                row = row.args[0]
            row = ast.dump(row).replace("Store()", "Load()")
            for node in ast.walk(loop):
                if isinstance(node, ast.Attribute) and node.attr in CHANGE and ast.dump(node.value) == row:
                    yield "L23"
                if isinstance(node, ast.Subscript) and isinstance(node.ctx, ast.Store) and ast.dump(node.value) == row:
                    yield "L23"


LOOKS = (sets_and_texts, keywords, not_called, walked, walked_and_changed, signs, top, imports, statements, functions,
         expressions, names, attributes)


def broken(source):
    """The rules that a file breaks."""
    tree = ast.parse(source)
    return sorted({rule for look in LOOKS for rule in look(source, tree)})


BREAKS = {
    "L2": ["from os import path\n", "from .trade import answers\n", "from ringmarket.trade import *\n",
           "def f():\n    from ringmarket.trade import answers\n    return answers\n"],
    "L3": ["x = len('a')\n", "x = 1\nx.y = 2\n", "if True:\n    x = 1\n"],
    "L4": ["def f(*xs):\n    return xs\n", "def f(**xs):\n    return xs\n", "@f\ndef g():\n    pass\n"],
    "L5": ["class A:\n    x = 1\n", "class A(B, C):\n    pass\n"],
    "L6": ["def f():\n    global x\n", "def f(x):\n    assert x\n", "def f():\n    a = b = 1\n",
           "def f(x):\n    while x:\n        pass\n    else:\n        pass\n", "def f(d):\n    del d[0]\n"],
    "L7": ["def f(x):\n    return x / 2\n", "x = 1.5\n", "def f(x):\n    return {y for y in x}\n",
           "def f(x):\n    return all(y for y in x)\n", "def f(x):\n    return g(*x)\n", "x = b'a'\n",
           "def f(x):\n    return f'{x + 1}'\n", "def f(x):\n    return f'{x:3}'\n"],
    "L8": ["def f(x):\n    return hash(x)\n", "def f(x):\n    return chr(x)\n", "def f(x):\n    print(x)\n"],
    "L10": ["def f():\n" + "    g()\n" * 40, "x = 1\n" + "\n" * 400, "x = '" + "a" * 120 + "'\n"],
    "L12": ["def f():\n    _x = 1\n    return _x\n", "def _f():\n    pass\n", "def f(x):\n    return x._y\n"],
    "L13": ["def f(x):\n    return {1, 2, 3}\n"],
    "L14": ["x = 'a\tb'\n", "# caf\u00e9\n"],
    "L15": ["x = 1\nx = 2\n", "x = [[1]]\n", "def f(max):\n    return 1\n", "def f():\n    hash = 1\n    return 2\n",
            "from ringmarket.trade import answers\n\n\ndef f(answers):\n    return answers\n"],
    "L16": ["import ringmarket.trade\n"],
    "L17": ["# the type of it\n", "def f(x):\n    return x.elements\n", "def f(x):\n    return getattr(x, 'y')\n"],
    "L19": ["def f():\n    try:\n        g()\n    except Exception:\n        pass\n",
            "def f():\n    try:\n        g()\n    except:\n        pass\n"],
    "L20": ["def f(x, y):\n    return x is y\n"],
    "L21": ["def f(x: int):\n    return x\n", "def f(x) -> int:\n    return x\n"],
    "L22": ["def f(x):\n    return int(x, base=2)\n", "def f(x):\n    return x.split(sep=' ')\n",
            "def f():\n    size = len\n    return size\n", "def f(x):\n    return g(sum, x)\n"],
    "L23": ["def f(x):\n    rows = x.items()\n    return rows\n", "def f(x):\n    return zip(x, x)\n",
            "def f(x):\n    return 1 in range(x)\n", "def f(x):\n    for y in x:\n        x.append(y)\n",
            "def f(x):\n    for k, y in x.items():\n        x[k] = y\n",
            "def f(x):\n    for k, y in enumerate(x):\n        x.pop()\n",
            "def f(x):\n    for y in x.parts:\n        x.parts.pop(y)\n"],
    "L24": ["def f(x):\n    return set(x)\n", "def f(x):\n    return {x}\n"],
    "L25": ["def f(x):\n    return x.sort()\n", "def f(x):\n    return x.encode()\n",
            "def f(x):\n    add = x.append\n    return add\n"],
    "L26": ["def f(x):\n    x.items = 1\n", "def f(x):\n    x.sort = 1\n"],
    "L27": ["def f(n):\n    return 2 ** n\n", "x = '%'\n"],
}


class Language(unittest.TestCase):
    def files(self):
        return [path for path in sorted(PACKAGE.iterdir()) if path.name != "__pycache__"]

    def test_files(self):
        found = [path.name for path in self.files()]
        self.assertIn("__init__.py", found)
        self.assertIn("trade.py", found)
        for name in found:
            self.assertRegex(name, "^[a-z0-9_]+[.]py$")
            stem = name[:-3]
            self.assertFalse(stem.startswith("test") or stem in WORDS + ["site", "conftest"], name)
            self.assertTrue(stem == "__init__" or not hasattr(builtins, stem), name)

    def test_package(self):
        for path in self.files():
            self.assertEqual(broken(path.read_text(encoding="utf-8")), [], path.name)

    def test_looks_see_what_is_wrong(self):
        for rule, sources in BREAKS.items():
            for source in sources:
                self.assertIn(rule, broken(source), source)

    def test_init_binds_nothing(self):
        tree = ast.parse((PACKAGE / "__init__.py").read_text(encoding="utf-8"))
        self.assertTrue(all([is_remark(row) for row in tree.body]))

    def test_no_two_files_draw_from_one_another(self):
        draws = {}
        for path in self.files():
            rows = [row for row in ast.parse(path.read_text(encoding="utf-8")).body if isinstance(row, ast.ImportFrom)]
            draws["ringmarket." + path.stem] = {row.module for row in rows}
        while draws:
            ready = [name for name in draws if not draws[name] & set(draws)]
            self.assertTrue(ready, draws)
            for name in ready:
                del draws[name]

    def test_names_come_from_the_file_that_defines_them(self):
        for path in self.files():
            for row in ast.parse(path.read_text(encoding="utf-8")).body:
                if isinstance(row, ast.ImportFrom):
                    there = (PACKAGE / (row.module.split(".")[1] + ".py")).read_text(encoding="utf-8")
                    for alias in row.names:
                        self.assertRegex(there, "(?m)^(def |class |)%s\\b" % alias.name)

    def test_no_name_is_a_method_and_a_value(self):
        methods = []
        values = []
        for path in self.files():
            for node in ast.walk(ast.parse(path.read_text(encoding="utf-8"))):
                if isinstance(node, ast.ClassDef):
                    methods.extend([row.name for row in node.body if isinstance(row, ast.FunctionDef)])
                if isinstance(node, ast.Attribute) and isinstance(node.ctx, ast.Store):
                    values.append(node.attr)
        self.assertEqual(sorted(set(methods) & set(values)), [])
