"""Holds the package's files against the rules of the language part that can be read off the syntax tree."""

import ast
import builtins
import pathlib
import re
import unittest

PACKAGE = pathlib.Path(__file__).resolve().parent.parent / "sidelink"

ERRORS = """Exception ValueError TypeError KeyError IndexError LookupError ZeroDivisionError ArithmeticError
OverflowError RuntimeError NotImplementedError AttributeError StopIteration""".split()
BUILTINS = """len range enumerate zip min max sum abs sorted reversed int str bool list tuple dict set frozenset
isinstance ord repr any all divmod""".split() + ERRORS
METHODS = "__init__ __eq__ __repr__ __str__ __len__".split()
NOWHERE = """type typing typing_extensions enum Enum IntEnum StrEnum Flag IntFlag Generic Protocol ABC ABCMeta
namedtuple NamedTuple TypedDict TYPE_CHECKING abstractmethod""".split()
WITHIN = ("dataclass", "overload", "contextmanager")
UNUSED = """register mro elements open input version_info with_traceback add_note format format_map attrgetter
breakpoint builtins compile copyright credits delattr dir eval exec exit gc getattr globals hasattr help id importlib
license locals methodcaller os quit setattr super vars sys chr print""".split()
STATEMENTS = (ast.Assign, ast.AugAssign, ast.If, ast.While, ast.For, ast.Return, ast.Break, ast.Continue, ast.Pass,
              ast.Raise, ast.Try, ast.Expr, ast.FunctionDef, ast.ClassDef, ast.ImportFrom)
BARRED = (ast.DictComp, ast.SetComp, ast.GeneratorExp, ast.NamedExpr, ast.Starred, ast.Await, ast.Yield,
          ast.YieldFrom, ast.Div, ast.MatMult)

# The methods of Python's own values that may be called.
CALLED = """append clear copy count endswith extend find get index insert isalnum isalpha isdigit islower isspace
isupper items join keys ljust lower lstrip partition pop remove replace reverse rfind rjust rpartition rsplit rstrip
setdefault split splitlines startswith strip update upper values zfill bit_length""".split()
OWN_VALUES = "count index title find get join lower upper split strip copy add".split()
OF_PYTHONS_VALUES = {name for kind in (str, int, list, tuple, dict, set, frozenset, bytes, bool) for name in dir(kind)}
WALKED = "zip enumerate reversed range items keys values".split()
WALKERS = "list tuple dict sorted sum any all enumerate zip min max join".split()
KEYWORDS = {"sorted": ("key", "reverse"), "min": ("key", "default"), "max": ("key", "default"), "sum": ("start",),
            "enumerate": ("start",), "zip": ("strict",)}


def text_faults(text):
    lines = text.split("\n")
    if len(lines) > 401:
        yield "L10: file too long"
    for row, line in enumerate(lines, start=1):
        if len(line) > 120:
            yield f"L10: line {row} too long"
        if any(not " " <= sign <= "~" for sign in line):
            yield f"L14: sign in line {row}"
    for escape in re.findall(r"\\(.)", text):
        if escape not in "nt\\'\"":
            yield f"L27: escape {escape}"
    for word in re.findall(r"\w+", text):
        if word in NOWHERE or any(part in word for part in WITHIN):
            yield f"L17: word {word}"


def top_faults(tree):
    bound = []
    for node in tree.body:
        if isinstance(node, (ast.FunctionDef, ast.ClassDef)):
            bound.append(node.name)
        elif isinstance(node, ast.Assign):
            bound.extend(target.id for target in node.targets if isinstance(target, ast.Name))
            if any(isinstance(part, (ast.Call, ast.Set, ast.BinOp, ast.IfExp)) for part in ast.walk(node.value)):
                yield f"L3: line {node.lineno} is no plain value"
        elif isinstance(node, ast.ImportFrom):
            bound.extend(name.name for name in node.names)
        elif not (node is tree.body[0] and isinstance(node, ast.Expr)):
            yield f"L3: line {node.lineno} at the top"
    if len(bound) != len(set(bound)):
        yield "L15: a name bound twice at the top"


def kept_faults(tree):
    """A list or dict of a file's top holds none itself and is only read."""
    kept = {}
    for node in tree.body:
        if isinstance(node, ast.Assign) and isinstance(node.value, (ast.List, ast.Dict)):
            kept[node.targets[0].id] = node.value
            if any(isinstance(part, (ast.List, ast.Dict)) for part in list(ast.walk(node.value))[1:]):
                yield f"L15: a list or dict within one, line {node.lineno}"
    read = set()
    for node in ast.walk(tree):
        if isinstance(node, ast.Subscript) and isinstance(node.ctx, ast.Load):
            read.add(node.value)
        if isinstance(node, ast.Attribute) and node.attr == "get":
            read.add(node.value)
        if isinstance(node, ast.Compare):
            read.update([node.left] + node.comparators)
        if isinstance(node, (ast.For, ast.comprehension)):
            read.add(node.iter)
        if called_name(node) in ("len", "list", "dict", "sorted"):
            read.update(node.args)
    for node in ast.walk(tree):
        if isinstance(node, ast.Name) and isinstance(node.ctx, ast.Load) and node.id in kept and node not in read:
            yield f"L15: {node.id} is not only read, line {node.lineno}"


def class_faults(tree):
    """A class is called, is a base, or stands by isinstance, except or raise."""
    used = set()
    for node in ast.walk(tree):
        if isinstance(node, ast.Call):
            used.add(node.func)
        if called_name(node) == "isinstance":
            used.update(ast.walk(node.args[1]))
        if isinstance(node, ast.ClassDef):
            used.update(node.bases)
        if isinstance(node, ast.ExceptHandler) and node.type:
            used.update(ast.walk(node.type))
    for node in ast.walk(tree):
        if isinstance(node, ast.Name) and isinstance(node.ctx, ast.Load) and node not in used:
            if re.fullmatch(r"[A-Z]\w*[a-z]\w*", node.id):
                yield f"L18: {node.id} is handed on, line {node.lineno}"
        if isinstance(node, ast.Attribute) and isinstance(node.ctx, ast.Store) and not isinstance(node.value, ast.Name):
            yield f"L18: {node.attr} is given through no local name, line {node.lineno}"
        if isinstance(node, ast.Raise) and not isinstance(node.exc, ast.Call):
            yield f"L19: raise makes no error, line {node.lineno}"


def import_faults(node):
    if isinstance(node, ast.Import):
        yield "L16: import without from"
    if isinstance(node, ast.ImportFrom):
        own = node.module is not None and node.module.startswith("sidelink.") and node.level == 0
        if not (own or node.module == "__future__") or any(name.name == "*" for name in node.names):
            yield "L2: import"


def def_faults(node):
    if isinstance(node, (ast.FunctionDef, ast.ClassDef)) and node.decorator_list:
        yield "L4: decorator"
    if isinstance(node, ast.FunctionDef):
        given = node.args
        if node.returns or any(one.annotation for one in given.args):
            yield "L21: annotation"
        if given.vararg or given.kwarg or given.kwonlyargs or given.posonlyargs:
            yield "L4: parameters"
        if node.end_lineno - node.lineno >= 40:
            yield "L10: function too long"
    if isinstance(node, ast.ClassDef):
        if len(node.bases) > 1 or node.keywords:
            yield "L5: bases"
        if any(not isinstance(part, (ast.FunctionDef, ast.Pass)) for part in node.body):
            yield "L5: class body"


def statement_faults(node):
    if isinstance(node, ast.stmt) and not isinstance(node, STATEMENTS + (ast.Import,)):
        yield "L6: statement"
    if isinstance(node, ast.Assign) and (len(node.targets) > 1 or isinstance(node.targets[0], (ast.Tuple, ast.List))):
        yield "L6: more than one target"
    if isinstance(node, (ast.For, ast.While)) and node.orelse:
        yield "L6: else behind a loop"
    if isinstance(node, ast.Try) and node.finalbody:
        yield "L6: finally"
    if isinstance(node, ast.ExceptHandler):
        named = ast.unparse(node.type) if node.type else ""
        if named in ("", "Exception", "TypeError", "BaseException"):
            yield "L19: handler"


def value_faults(node):
    if isinstance(node, BARRED):
        yield "L7: expression"
    if isinstance(node, ast.ListComp) and (len(node.generators) > 1 or len(node.generators[0].ifs) > 1):
        yield "L7: comprehension"
    if isinstance(node, ast.Constant) and not isinstance(node.value, (int, str, type(None))):
        yield "L7: value"
    # Sets have narrow places of their own; the package does without them.
    if isinstance(node, ast.Set) or called_name(node) in ("set", "frozenset"):
        yield "L24: a set"
    if isinstance(node, ast.BinOp) and isinstance(node.op, ast.Pow):
        if not (isinstance(node.right, ast.Constant) and node.right.value in range(65)):
            yield "L27: exponent"
    if isinstance(node, ast.Compare):
        for operator, side in zip(node.ops, node.comparators):
            if isinstance(operator, (ast.Is, ast.IsNot)):
                if not (isinstance(side, ast.Constant) and side.value in (None, True, False)):
                    yield "L20: is"


def name_faults(node):
    names = []
    if isinstance(node, ast.Name):
        names = [node.id]
        if isinstance(node.ctx, ast.Load) and hasattr(builtins, node.id) and node.id not in BUILTINS:
            yield f"L8: {node.id}"
        if isinstance(node.ctx, ast.Store) and hasattr(builtins, node.id):
            yield f"L15: {node.id} is Python's own"
    elif isinstance(node, ast.arg):
        names = [node.arg]
        if hasattr(builtins, node.arg):
            yield f"L15: {node.arg} is Python's own"
    elif isinstance(node, ast.Attribute):
        names = [node.attr]
    elif isinstance(node, (ast.FunctionDef, ast.ClassDef)):
        names = [node.name]
    for name in names:
        if name in UNUSED:
            yield f"L17: name {name}"
        if name.startswith("_") and name not in METHODS:
            yield f"L12: name {name}"


def called_name(node):
    if not isinstance(node, ast.Call):
        return None
    return node.func.id if isinstance(node.func, ast.Name) else getattr(node.func, "attr", None)


def call_faults(node):
    if isinstance(node, ast.Call) and isinstance(node.func, ast.Name) and node.func.id in BUILTINS:
        if any(keyword.arg not in KEYWORDS.get(node.func.id, ()) for keyword in node.keywords):
            yield "L22: keyword"
    if isinstance(node, ast.Constant) and isinstance(node.value, str) and "%" in node.value:
        yield "L27: a text with the sign for parts of a hundred"
    if isinstance(node, ast.FunctionDef) and node.name == "__init__":
        if any(isinstance(part, ast.Return) and part.value is not None for part in ast.walk(node)):
            yield "L28: __init__ gives something back"


def walked_faults(tree):
    """What is walked at once must stand where something walks it."""
    walked = []
    for node in ast.walk(tree):
        if isinstance(node, (ast.For, ast.comprehension)):
            walked.append(node.iter)
        if called_name(node) in WALKERS:
            walked.extend(node.args)
    for node in ast.walk(tree):
        if called_name(node) in WALKED and node not in walked:
            yield f"L23: {called_name(node)} is kept, line {node.lineno}"


def local_faults(tree):
    """No parameter and no local is called like a class or an import of its file."""
    taken = [node.name for node in tree.body if isinstance(node, ast.ClassDef)]
    for node in tree.body:
        if isinstance(node, ast.ImportFrom):
            taken.extend(name.asname or name.name for name in node.names)
    for node in ast.walk(tree):
        name = node.arg if isinstance(node, ast.arg) else None
        if isinstance(node, ast.Name) and isinstance(node.ctx, ast.Store):
            name = node.id
        if name in taken:
            yield f"L15: {name} is a class or an import, line {node.lineno}"


def top_names(tree):
    names = [node.name for node in tree.body if isinstance(node, (ast.FunctionDef, ast.ClassDef))]
    for node in tree.body:
        if isinstance(node, ast.Assign):
            names.extend(target.id for target in node.targets)
    return names


def drawn_from(tree):
    return {node.module: [name.name for name in node.names] for node in tree.body if isinstance(node, ast.ImportFrom)}


def import_graph_faults(trees):
    files = {f"sidelink.{name}": tree for name, tree in trees.items()}
    for name, tree in files.items():
        for module, names in drawn_from(tree).items():
            for wanted in names:
                if module not in files or wanted not in top_names(files[module]):
                    yield f"L16: {name} draws {wanted} from {module}, which does not define it"
        reached = []
        waiting = list(drawn_from(tree))
        while waiting:
            module = waiting.pop()
            if module in files and module not in reached:
                reached.append(module)
                waiting.extend(drawn_from(files[module]))
        if name in reached:
            yield f"L16: {name} draws from itself in some steps"


def member_faults(trees):
    """Names of methods and values, over all files together."""
    methods = []
    values = []
    called = []
    for tree in trees.values():
        for node in ast.walk(tree):
            if isinstance(node, ast.ClassDef):
                own = [part.name for part in node.body if isinstance(part, ast.FunctionDef)]
                methods.extend(own)
                if len(own) != len(set(own)):
                    yield f"L18: a method twice in {node.name}"
            if isinstance(node, ast.Attribute) and isinstance(node.ctx, ast.Store):
                values.append(node.attr)
            if isinstance(node, ast.Call) and isinstance(node.func, ast.Attribute):
                called.append(node.func.attr)
    for name in sorted(set(methods) & set(values)):
        yield f"L18: {name} is a method and a value"
    for name in sorted(set(methods) & OF_PYTHONS_VALUES - set(CALLED) - set(METHODS) - {"add", "discard"}):
        yield f"L26: method {name}"
    for name in sorted(set(values) & OF_PYTHONS_VALUES - set(OWN_VALUES)):
        yield f"L26: value {name}"
    for name in sorted(set(called) - set(methods) - set(CALLED) - set(METHODS)):
        yield f"L25: {name} is called"


def package_faults(texts):
    trees = {name: ast.parse(text) for name, text in texts.items()}
    return list(import_graph_faults(trees)) + list(member_faults(trees))


def faults_of(text):
    tree = ast.parse(text)
    told = list(text_faults(text))
    for look in (top_faults, local_faults, walked_faults, kept_faults, class_faults):
        told.extend(look(tree))
    for node in ast.walk(tree):
        for look in (import_faults, def_faults, statement_faults, value_faults, name_faults, call_faults):
            told.extend(f"{fault}, line {getattr(node, 'lineno', 0)}" for fault in look(node))
    return told


class Form(unittest.TestCase):
    def test_only_plain_files_lie_in_the_package(self):
        for path in PACKAGE.iterdir():
            if path.name != "__pycache__":
                self.assertTrue(path.is_file(), path)
                self.assertRegex(path.name, r"\A(__init__|__main__|[a-z][a-z0-9_]*)\.py\Z")
        self.assertTrue((PACKAGE / "__init__.py").is_file())

    def test_the_package_keeps_to_the_rules(self):
        for path in sorted(PACKAGE.glob("*.py")):
            with self.subTest(path=path.name):
                self.assertEqual(faults_of(path.read_text(encoding="utf-8")), [])

    def test_the_files_together_keep_to_the_rules(self):
        texts = {path.stem: path.read_text(encoding="utf-8") for path in PACKAGE.glob("*.py")}
        self.assertEqual(package_faults(texts), [])

    def test_the_look_finds_what_breaks_a_rule_between_files(self):
        two = "class {}:\n    def __init__(self):\n        self.{} = 1\n\n    def {}(self):\n        return self\n"
        breaches = {
            "L16: sidelink.a draws x": {"a": "from sidelink.b import x\n", "b": "y = 1\n"},
            "L16: sidelink.a draws from": {"a": "from sidelink.b import y\nx = 1\n",
                                           "b": "from sidelink.a import x\ny = 1\n"},
            "L18: one is": {"a": two.format("A", "one", "two"), "b": two.format("B", "three", "one")},
            "L18: a method twice": {"a": two.format("A", "one", "two") + "\n    def two(self):\n        return 1\n"},
            "L25": {"a": "def f(xs):\n    xs.sort()\n"},
            "L26: method": {"a": two.format("A", "one", "encode")},
            "L26: value": {"a": two.format("A", "items", "two")},
        }
        for rule, texts in breaches.items():
            with self.subTest(rule=rule):
                self.assertTrue([fault for fault in package_faults(texts) if fault.startswith(rule)])

    def test_the_look_finds_what_breaks_a_rule(self):
        breaches = {
            "L2": "from math import sqrt\n",
            "L16": "import math\n",
            "L3": "xs = list(())\n",
            "L4": "def f(*xs):\n    return xs\n",
            "L5": "class C:\n    x = 1\n",
            "L6": "def f():\n    del x\n",
            "L7": "def f():\n    return 1.5\n",
            "L8": "def f(x):\n    return hash(x)\n",
            "L10": "def f():\n" + "    x = 1\n" * 40,
            "L12": "def _f():\n    return 1\n",
            "L14": "x = '\t'\n",
            "L15": "x = 1\nx = 2\n",
            "L17": "# a type of page\n",
            "L19": "def f():\n    try:\n        f()\n    except Exception:\n        pass\n",
            "L20": "def f(x, y):\n    return x is y\n",
            "L22": "def f(x):\n    return int(x, base=2)\n",
            "L23": "def f(x):\n    pairs = zip(x, x)\n    return list(pairs)\n",
            "L27": "def f():\n    return 'a % b'\n",
            "L28": "class C:\n    def __init__(self):\n        return None\n",
        }
        for rule, text in breaches.items():
            with self.subTest(rule=rule):
                self.assertTrue([fault for fault in faults_of(text) if fault.startswith(rule + ":")])

    def test_the_look_finds_more_that_breaks_a_rule(self):
        top = "xs = [1]\nd = {'a': 1}\n\n\n"
        breaches = (
            ("L3", "x = 10 ** 30\n"),
            ("L15", "xs = [[1]]\n"),
            ("L15", "xs = {'a': {'b': 1}}\n"),
            ("L15", top + "def f():\n    return xs\n"),
            ("L15", top + "def f():\n    xs.append(1)\n"),
            ("L15", top + "def f():\n    d['b'] = 2\n"),
            ("L18", "class C:\n    pass\n\n\ndef f():\n    return [Card]\n"),
            ("L18", "def f(x):\n    x.y.z = 1\n"),
            ("L19", "def f():\n    raise Busy\n"),
            ("L21", "def f(x: int):\n    return x\n"),
            ("L21", "def f(x) -> int:\n    return x\n"),
            ("L24", "def f(x):\n    return set(x)\n"),
            ("L27", "def f(n):\n    return 2 ** n\n"),
            ("L27", "def f():\n    return 10 ** 65\n"),
            ("L27", "def f():\n    return '\\x41'\n"),
        )
        for rule, text in breaches:
            with self.subTest(text=text):
                self.assertTrue([fault for fault in faults_of(text) if fault.startswith(rule + ":")])
        fine = top + "def f(x):\n    return d.get(x) in xs and xs[0] < len(d) and dict(d)\n"
        self.assertEqual(faults_of(fine), [])

    def test_the_look_finds_locals_that_are_called_like_imports_and_classes(self):
        for text in ("from sidelink.a import x\n\n\ndef f(x):\n    return x\n",
                     "class C:\n    pass\n\n\ndef f():\n    C = 1\n    return C\n"):
            self.assertTrue([fault for fault in faults_of(text) if fault.startswith("L15:")])


if __name__ == "__main__":
    unittest.main()
