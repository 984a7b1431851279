"""What can be seen of the rules L1 to L28 in the package's files, each breach told with its rule and line."""

import ast
import builtins
import re
import unittest
from pathlib import Path

PACKAGE = "eachstepsame"
FOLDER = Path(__file__).resolve().parent.parent / PACKAGE

OWN_CALLS = """len range enumerate zip min max sum abs sorted reversed int str bool list tuple dict set frozenset
isinstance ord repr any all divmod""".split()
ERRORS = """Exception ValueError TypeError KeyError IndexError LookupError ZeroDivisionError ArithmeticError
OverflowError RuntimeError NotImplementedError AttributeError StopIteration""".split()
METHODS = """append clear copy count endswith extend find get index insert isalnum isalpha isdigit islower isspace
isupper items join keys ljust lower lstrip partition pop remove replace reverse rfind rjust rpartition rsplit rstrip
setdefault split splitlines startswith strip update upper values zfill bit_length""".split()
DUNDERS = ["__init__", "__eq__", "__repr__", "__str__", "__len__"]
NEVER = """register mro elements open input version_info with_traceback add_note format format_map sort args
encode""".split()
WORDS = re.compile(
    r"\b(type|typing|typing_extensions|enum|Enum|IntEnum|StrEnum|Flag|IntFlag|Generic|Protocol|ABC|ABCMeta|namedtuple"
    r"|NamedTuple|TypedDict|TYPE_CHECKING|abstractmethod)\b|dataclass|overload|contextmanager")
STATEMENTS = (
    ast.Assign, ast.AugAssign, ast.If, ast.While, ast.For, ast.Return, ast.Break, ast.Continue, ast.Pass, ast.Raise,
    ast.Try, ast.Expr, ast.FunctionDef, ast.ClassDef, ast.ImportFrom)
EXPRESSIONS = (
    ast.Constant, ast.Name, ast.List, ast.Tuple, ast.Dict, ast.Set, ast.BinOp, ast.UnaryOp, ast.BoolOp, ast.Compare,
    ast.IfExp, ast.Call, ast.Attribute, ast.Subscript, ast.Slice, ast.ListComp, ast.JoinedStr, ast.FormattedValue,
    ast.Lambda)
KEYWORDS = ["key", "reverse", "default", "start", "strict"]
WALKED = ["zip", "enumerate", "reversed", "range", "items", "keys", "values"]
WALKERS = ["list", "tuple", "dict", "sorted", "sum", "any", "all", "enumerate", "zip", "min", "max", "join"]


def is_plain(node):
    if isinstance(node, (ast.List, ast.Tuple)):
        return all(is_plain(part) for part in node.elts)
    if isinstance(node, ast.Dict):
        return all(part is not None and is_plain(part) for part in node.keys + node.values)
    if isinstance(node, ast.UnaryOp):
        return isinstance(node.operand, ast.Constant)
    return isinstance(node, (ast.Constant, ast.Name))


def called(node):
    """The name or the method that a call calls."""
    if not isinstance(node, ast.Call):
        return None
    return node.func.id if isinstance(node.func, ast.Name) else getattr(node.func, "attr", None)


class Breaches:
    def __init__(self, text, file):
        self.text, self.file, self.found = text, file, []
        self.tree = ast.parse(text)
        self.above = {}
        for node in ast.walk(self.tree):
            for part in ast.iter_child_nodes(node):
                self.above[part] = node

    def say(self, rule, node):
        line = node if isinstance(node, int) else getattr(node, "lineno", 0)
        self.found.append(f"{rule} {self.file}:{line}")

    def all(self):
        self.signs()
        self.top()
        for node in ast.walk(self.tree):
            if isinstance(node, ast.stmt):
                self.statement(node)
            if isinstance(node, ast.expr):
                self.expression(node)
            if isinstance(node, (ast.FunctionDef, ast.Lambda)):
                self.parameters(node)
            if isinstance(node, ast.ClassDef):
                self.a_class(node)
            if isinstance(node, ast.Call):
                self.call(node)
            if isinstance(node, ast.ExceptHandler):
                self.handler(node)
            self.names(node)
        return self.found

    def signs(self):
        lines = self.text.split("\n")
        if len(lines) - 1 > 400:
            self.say("L10", len(lines))
        for number, line in enumerate(lines, start=1):
            if len(line) > 120 or "\t" in line:
                self.say("L10", number)
            if not all(" " <= sign <= "~" for sign in line):
                self.say("L14", number)
            if WORDS.search(line):
                self.say("L17", number)

    def top(self):
        bound = []
        for place, node in enumerate(self.tree.body):
            if isinstance(node, ast.Expr):
                if place > 0 or not isinstance(node.value, ast.Constant):
                    self.say("L3", node)
            elif isinstance(node, ast.Assign):
                if not isinstance(node.targets[0], ast.Name) or not is_plain(node.value):
                    self.say("L3", node)
                else:
                    bound.append(node.targets[0].id)
            elif isinstance(node, ast.ImportFrom):
                self.drawn(node)
                bound.extend(alias.name for alias in node.names)
            elif isinstance(node, (ast.FunctionDef, ast.ClassDef)):
                bound.append(node.name)
            else:
                self.say("L2, L3", node)
        for name in bound:
            if bound.count(name) > 1:
                self.say("L15", 0)

    def drawn(self, node):
        if node.level or not (node.module or "").startswith(PACKAGE + "."):
            self.say("L2", node)
        if any(alias.name == "*" or alias.asname for alias in node.names):
            self.say("L2", node)

    def statement(self, node):
        if not isinstance(node, STATEMENTS):
            self.say("L6", node)
        if isinstance(node, (ast.ClassDef, ast.ImportFrom)) and self.above[node] is not self.tree:
            self.say("L2, L15", node)
        # Whether several names ahead of one = are one target the rule does not say; so there are none.
        if isinstance(node, ast.Assign) and (
                len(node.targets) > 1 or isinstance(node.targets[0], (ast.Tuple, ast.List))):
            self.say("L6", node)
        if isinstance(node, ast.Expr) and self.above[node] is not self.tree and not isinstance(node.value, ast.Call):
            self.say("L6", node)
        if isinstance(node, (ast.While, ast.For)) and node.orelse:
            self.say("L6", node)
        if isinstance(node, ast.Try) and node.finalbody:
            self.say("L6", node)
        if isinstance(node, ast.FunctionDef) and node.end_lineno - node.lineno >= 40:
            self.say("L10", node)

    def expression(self, node):
        if not isinstance(node, EXPRESSIONS):
            self.say("L7", node)
        if isinstance(node, ast.Constant) and (isinstance(node.value, (float, bytes, complex)) or node.value is ...):
            self.say("L7", node)
        if isinstance(node, ast.Constant) and isinstance(node.value, str) and "%" in node.value:
            self.say("L27", node)
        if isinstance(node, ast.BinOp) and isinstance(node.op, (ast.Div, ast.MatMult)):
            self.say("L7", node)
        if isinstance(node, ast.BinOp) and isinstance(node.op, ast.Pow):
            if not isinstance(node.right, ast.Constant) or not 0 <= node.right.value <= 64:
                self.say("L27", node)
        if isinstance(node, ast.ListComp) and (len(node.generators) > 1 or len(node.generators[0].ifs) > 1):
            self.say("L7", node)
        if isinstance(node, ast.Compare):
            for op, other in zip(node.ops, node.comparators):
                if isinstance(op, (ast.Is, ast.IsNot)) and ast.unparse(other) not in ("None", "True", "False"):
                    self.say("L20", node)
        if isinstance(node, ast.FormattedValue) and not isinstance(node.value, ast.Name):
            self.say("L7", node)

    def parameters(self, node):
        given = node.args
        if given.vararg or given.kwarg or given.kwonlyargs or given.posonlyargs:
            self.say("L4", node)
        if not all(is_plain(default) for default in given.defaults):
            self.say("L4", node)
        if isinstance(node, ast.FunctionDef) and (node.decorator_list or node.returns):
            self.say("L4, L21", node)
        if any(part.annotation for part in given.args):
            self.say("L21", node)

    def a_class(self, node):
        if node.decorator_list or node.keywords or len(node.bases) > 1:
            self.say("L5", node)
        methods = []
        for part in node.body:
            if isinstance(part, ast.FunctionDef):
                methods.append(part.name)
            elif not isinstance(part, ast.Pass):
                self.say("L5", part)
        if len(set(methods)) < len(methods):
            self.say("L18", node)

    def call(self, node):
        name = called(node)
        if isinstance(node.func, ast.Name):
            if name in ("chr", "print") or name in dir(builtins) and name not in OWN_CALLS + ERRORS:
                self.say("L8, L27", node)
        above = self.above[node]
        on_the_spot = (
            isinstance(above, (ast.For, ast.comprehension)) and above.iter is node
            or called(above) in WALKERS and node in above.args)
        if name in WALKED and not on_the_spot:
            self.say("L23", node)
        if name in ("set", "frozenset") and not (
                isinstance(above, (ast.Compare, ast.BinOp)) or called(above) in ("sorted", "len")):
            self.say("L24", node)
        for keyword in node.keywords:
            if name in OWN_CALLS + ERRORS + METHODS and keyword.arg not in KEYWORDS:
                self.say("L22", node)

    def handler(self, node):
        taken = [] if node.type is None else [ast.unparse(part) for part in ast.walk(node.type)]
        if not taken or "Exception" in taken or "TypeError" in taken:
            self.say("L19", node)

    def names(self, node):
        bound = []
        if isinstance(node, ast.Name):
            bound.append(node.id)
            if isinstance(node.ctx, ast.Load) and node.id in dir(builtins) and node.id not in OWN_CALLS + ERRORS:
                self.say("L8", node)
            if isinstance(node.ctx, ast.Store) and node.id in dir(builtins):
                self.say("L15", node)
        if isinstance(node, (ast.arg, ast.FunctionDef, ast.ClassDef)):
            bound.append(node.arg if isinstance(node, ast.arg) else node.name)
            if bound[0] in dir(builtins):
                self.say("L15", node)
        if isinstance(node, ast.Attribute):
            bound.append(node.attr)
        for name in bound:
            if name not in DUNDERS and not re.fullmatch(r"[A-Za-z][A-Za-z0-9_]*", name):
                self.say("L12", node)
            if name in NEVER or re.match(r"(f|tb|co|gi|cr)_", name):
                self.say("L17, L26", node)


def package_texts():
    return {path.stem: path.read_text(encoding="utf-8") for path in sorted(FOLDER.glob("*.py"))}


def top_names(tree):
    names = [node.name for node in tree.body if isinstance(node, (ast.FunctionDef, ast.ClassDef))]
    return names + [node.targets[0].id for node in tree.body if isinstance(node, ast.Assign)]


def draws(tree):
    return [(node.module, alias.name) for node in tree.body if isinstance(node, ast.ImportFrom) for alias in node.names]


class Language(unittest.TestCase):
    def test_files(self):
        for path in FOLDER.iterdir():
            if path.name != "__pycache__":
                self.assertRegex(path.name, r"^([a-z][a-z0-9_]*|__init__|__main__)\.py$", "L1, L14")
                self.assertNotIn(path.stem, dir(builtins), "L14")

    def test_each_file(self):
        for stem, text in package_texts().items():
            self.assertEqual(Breaches(text, stem + ".py").all(), [])

    def test_imports_come_from_the_file_that_defines_the_name(self):
        trees = {stem: ast.parse(text) for stem, text in package_texts().items()}
        for stem, tree in trees.items():
            for module, name in draws(tree):
                self.assertIn(name, top_names(trees[module.split(".")[1]]), "L16 " + stem)

    def test_no_two_files_draw_from_one_another(self):
        left = {stem: {module.split(".")[1] for module, name in draws(ast.parse(text))}
                for stem, text in package_texts().items()}
        while left:
            free = [stem for stem, drawn in left.items() if not drawn & set(left)]
            self.assertNotEqual(free, [], f"L16 {sorted(left)}")
            for stem in free:
                left.pop(stem)

    def test_methods_are_known_and_no_value_is_called_like_one(self):
        nodes = [node for text in package_texts().values() for node in ast.walk(ast.parse(text))]
        methods = {part.name for node in nodes if isinstance(node, ast.ClassDef) for part in node.body
                   if isinstance(part, ast.FunctionDef)}
        values = {node.attr for node in nodes if isinstance(node, ast.Attribute) and isinstance(node.ctx, ast.Store)}
        self.assertEqual(methods & values, set(), "L18")
        calls = [node.func for node in nodes if isinstance(node, ast.Call)]
        asked = {func.attr for func in calls if isinstance(func, ast.Attribute)}
        self.assertEqual(asked - methods - set(METHODS) - set(DUNDERS), set(), "L25")

    def test_values_of_objects_are_not_called_like_methods_of_pythons_own(self):
        owned = {name for value in ["", 0, [], {}, set(), b"", ()] for name in dir(value)}
        allowed = {"count", "index", "title", "find", "get", "join", "lower", "upper", "split", "strip", "copy", "add"}
        for stem, text in package_texts().items():
            for node in ast.walk(ast.parse(text)):
                if isinstance(node, ast.Attribute) and isinstance(node.ctx, ast.Store):
                    self.assertNotIn(node.attr, owned - allowed, f"L26 {stem}:{node.lineno}")
                if isinstance(node, ast.ClassDef):
                    for part in node.body:
                        self.assertNotIn(getattr(part, "name", ""), owned - set(METHODS + DUNDERS), f"L26 {stem}")

    def test_no_local_is_called_like_a_class_or_an_import_of_its_file(self):
        for stem, text in package_texts().items():
            tree = ast.parse(text)
            taken = {name for module, name in draws(tree)}
            taken |= {node.name for node in tree.body if isinstance(node, ast.ClassDef)}
            inner = [part for node in tree.body for part in ast.walk(node) if not isinstance(node, ast.Assign)]
            bound = {node.id for node in inner if isinstance(node, ast.Name) and isinstance(node.ctx, ast.Store)}
            bound |= {node.arg for node in inner if isinstance(node, ast.arg)}
            bound |= {node.name for node in inner if isinstance(node, ast.ExceptHandler) and node.name}
            self.assertEqual(bound & taken, set(), f"L15 {stem}")

    def test_classes_are_called_or_asked_for_alone(self):
        trees = {stem: ast.parse(text) for stem, text in package_texts().items()}
        classes = {node.name for tree in trees.values() for node in tree.body if isinstance(node, ast.ClassDef)}
        for stem, tree in trees.items():
            right = set()
            for node in ast.walk(tree):
                if isinstance(node, ast.ClassDef):
                    right.update(node.bases)
                if isinstance(node, ast.Call):
                    right.add(node.func)
                    right.update(ast.walk(node.args[1]) if called(node) == "isinstance" else [])
                if isinstance(node, ast.Attribute) and node.attr == "__init__":
                    right.add(node.value)
                if isinstance(node, ast.ExceptHandler):
                    right.update(ast.walk(node.type))
            for node in ast.walk(tree):
                if isinstance(node, ast.Name) and node.id in classes:
                    self.assertIn(node, right, f"L18 {stem}:{node.lineno}")

    def test_what_stands_at_a_files_top_is_only_read(self):
        changing = "append clear extend insert pop remove reverse setdefault update".split()
        for stem, text in package_texts().items():
            tree = ast.parse(text)
            kept = {node.targets[0].id for node in tree.body if isinstance(node, ast.Assign)
                    if isinstance(node.value, (ast.List, ast.Dict))}
            for node in ast.walk(tree):
                held = getattr(node, "value", None)
                if isinstance(node, (ast.Attribute, ast.Subscript)) and isinstance(held, ast.Name) and held.id in kept:
                    self.assertIsInstance(node.ctx, ast.Load, f"L15 {stem}:{node.lineno}")
                    self.assertNotIn(getattr(node, "attr", ""), changing, f"L15 {stem}:{node.lineno}")

    def test_breaches_are_seen(self):
        for rule, text in [
            ("L2", "import re\n"), ("L2", "from .errors import Fault\n"), ("L3", "x = len([])\n"),
            ("L4", "def f(*a):\n    return a\n"), ("L5", "class A:\n    x = 1\n"),
            ("L6", "def f():\n    assert 1\n"), ("L6", "def f(a):\n    b, c = a\n    return b + c\n"),
            ("L7", "def f(a):\n    return a / 2\n"),
            ("L7", "def f(a):\n    return {x for x in a}\n"), ("L8", "def f(a):\n    return filter(None, a)\n"),
            ("L12", "def _f():\n    return 1\n"), ("L15", "def f(id):\n    return id\n"), ("L17", "# a type\n"),
            ("L19", "def f():\n    try:\n        g()\n    except:\n        pass\n"),
            ("L20", "def f(a, b):\n    return a is b\n"), ("L23", "def f(a):\n    return range(a)\n"),
            ("L24", "def f(a):\n    return set(a)\n"), ("L27", "def f(n):\n    return 2 ** n\n"),
            ("L10", "x = 1" + " " * 120 + "\n"),
        ]:
            found = " ".join(Breaches(text, "sample").all())
            self.assertRegex(found + " ", rf"{rule}[ ,]", text)


if __name__ == "__main__":
    unittest.main()
