"""The package's own files keep to the part of Python that LANGUAGE.md tells, as far as a look at them can see."""

import ast
import builtins
import pathlib
import re
import unittest

FOLDER = pathlib.Path(__file__).resolve().parent.parent / "allelse"
FILES = sorted(path for path in FOLDER.rglob("*") if path.is_file() and path.parent.name != "__pycache__")
OWN = (
    "len range enumerate zip min max sum abs sorted reversed int str bool bytes list tuple dict set frozenset "
    "isinstance ord repr any all divmod Exception ValueError TypeError KeyError IndexError LookupError "
    "ZeroDivisionError ArithmeticError OverflowError RuntimeError NotImplementedError AttributeError StopIteration"
).split()
METHODS = (
    "append clear copy count endswith extend find get index insert isalnum isalpha isdigit islower isspace isupper "
    "items join keys ljust lower lstrip partition pop remove replace reverse rfind rjust rpartition rsplit rstrip "
    "setdefault split splitlines startswith strip update upper values zfill bit_length add discard sort"
).split()
WORDS = (
    "type typing typing_extensions enum Enum IntEnum StrEnum Flag IntFlag Generic Protocol ABC ABCMeta namedtuple "
    "NamedTuple TypedDict TYPE_CHECKING abstractmethod"
).split()
NODES = (
    ast.With, ast.Global, ast.Nonlocal, ast.Yield, ast.YieldFrom, ast.Await, ast.AsyncFunctionDef, ast.AsyncFor,
    ast.AsyncWith, ast.Match, ast.NamedExpr, ast.GeneratorExp, ast.Import, ast.Div, ast.MatMult,
)
NOT_NAMES = (
    "register mro elements open input version_info with_traceback add_note attrgetter breakpoint compile copyright "
    "credits delattr dir eval exec exit gc getattr globals hasattr help id importlib license locals methodcaller os "
    "quit setattr super vars sys chr print"
).split()
DOUBLE = ("__init__", "__eq__", "__repr__", "__str__", "__len__")
PYTHONS = [name for name in dir(builtins) if not name.startswith("_")]


def trees():
    """Each file's name, its text and its tree."""
    return [(path.name, path.read_text("utf-8"), ast.parse(path.read_text("utf-8"))) for path in FILES]


def bound(tree):
    """Each name that is bound somewhere in a def: parameters, names given, defs within defs."""
    told = []
    for node in ast.walk(tree):
        if isinstance(node, (ast.FunctionDef, ast.Lambda)):
            told += [arg.arg for arg in node.args.args + node.args.kwonlyargs]
            body = node.body if isinstance(node.body, list) else [node.body]
            for within in [inner for row in body for inner in ast.walk(row)]:
                if isinstance(within, ast.Name) and not isinstance(within.ctx, ast.Load):
                    told.append(within.id)
                if isinstance(within, ast.FunctionDef):
                    told.append(within.name)
    return told


def at_top(tree):
    """Each name that is bound at a file's top, as often as it is."""
    told = []
    for row in tree.body:
        if isinstance(row, (ast.FunctionDef, ast.ClassDef)):
            told.append(row.name)
        if isinstance(row, ast.ImportFrom):
            told += [name.asname or name.name for name in row.names]
        if isinstance(row, ast.Assign):
            told += [name.id for name in row.targets]
    return told


def set_places(tree):
    """The sets of a tree that stand where L24 lets them, and all of its sets."""
    let, found = [], []
    for node in ast.walk(tree):
        if is_set(node):
            found.append(node)
        if isinstance(node, ast.Call) and isinstance(node.func, ast.Name) and node.func.id in ("sorted", "len"):
            let += node.args[:1] if not node.keywords else []
        if isinstance(node, ast.Compare) and isinstance(node.ops[0], (ast.In, ast.NotIn)):
            let += node.comparators
        if isinstance(node, ast.Assign) and len(node.targets) == 1 and isinstance(node.targets[0], ast.Name):
            let.append(node.value)
    return let, found


def is_set(node):
    if isinstance(node, (ast.Set, ast.SetComp)):
        return True
    return isinstance(node, ast.Call) and isinstance(node.func, ast.Name) and node.func.id in ("set", "frozenset")


class Language(unittest.TestCase):
    def test_files(self):
        self.assertTrue((FOLDER / "__init__.py").is_file())
        for path in FILES:
            self.assertEqual(path.parent, FOLDER)
            self.assertRegex(path.name, r"\A(__init__|[a-z][a-z0-9_]*)\.py\Z")

    def test_signs_and_sizes(self):
        for name, text, tree in trees():
            self.assertEqual(re.findall(r"[^ -~\n]", text), [], name)
            rows = text.split("\n")
            self.assertLessEqual(len(rows), 400, name)
            self.assertLessEqual(max(len(row) for row in rows), 120, name)
            for node in ast.walk(tree):
                if isinstance(node, ast.FunctionDef):
                    self.assertLessEqual(node.end_lineno - node.lineno + 1, 40, (name, node.name))

    def test_words_that_stand_nowhere(self):
        for name, text, tree in trees():
            found = [word for word in re.findall(r"\w+", text) if word in WORDS]
            self.assertEqual(found, [], name)
            self.assertEqual(re.findall("dataclass|overload|contextmanager", text), [], name)

    def test_forms(self):
        for name, text, tree in trees():
            for node in ast.walk(tree):
                self.assertNotIsInstance(node, NODES, (name, getattr(node, "lineno", 0)))
                if isinstance(node, (ast.FunctionDef, ast.ClassDef)):
                    self.assertEqual(node.decorator_list, [], name)
                if isinstance(node, ast.FunctionDef):
                    self.assertFalse(node.args.vararg or node.args.kwarg or node.args.posonlyargs, (name, node.name))
                if isinstance(node, ast.Constant):
                    self.assertNotIsInstance(node.value, (float, complex), name)
                if isinstance(node, (ast.For, ast.While)):
                    self.assertEqual(node.orelse, [], name)

    def test_is_stands_beside_none_and_truths(self):
        for name, text, tree in trees():
            for node in ast.walk(tree):
                if isinstance(node, ast.Compare) and isinstance(node.ops[0], (ast.Is, ast.IsNot)):
                    values = [part.value for part in node.comparators if isinstance(part, ast.Constant)]
                    self.assertTrue(values and values[0] in (None, True, False), (name, node.lineno))

    def test_imports(self):
        drawn = {}
        for name, text, tree in trees():
            drawn[name] = []
            for node in ast.walk(tree):
                if isinstance(node, ast.ImportFrom):
                    self.assertIn(node, tree.body, name)
                    self.assertEqual(node.level, 0, name)
                    self.assertRegex(node.module, r"\Aallelse\.[a-z]+\Z", name)
                    source = node.module.split(".")[1] + ".py"
                    drawn[name].append(source)
                    made = [row.name for row in ast.parse((FOLDER / source).read_text("utf-8")).body
                            if isinstance(row, (ast.FunctionDef, ast.ClassDef))]
                    for given in node.names:
                        self.assertIn(given.name, made, name)
        while drawn:
            free = [name for name in drawn if not [other for other in drawn[name] if other in drawn]]
            self.assertTrue(free, drawn)
            drawn = {name: drawn[name] for name in drawn if name not in free}

    def test_names(self):
        for name, text, tree in trees():
            top = at_top(tree)
            self.assertEqual(len(top), len(set(top)), name)
            for word in bound(tree) + top:
                self.assertRegex(word, r"\A[A-Za-z][A-Za-z0-9_]*\Z|\A__init__\Z", name)
                self.assertNotIn(word, PYTHONS, name)
                self.assertNotIn(word, NOT_NAMES, name)
            drawn = [given.name for row in tree.body if isinstance(row, ast.ImportFrom) for given in row.names]
            classes = [row.name for row in tree.body if isinstance(row, ast.ClassDef)]
            self.assertEqual([word for word in bound(tree) if word in drawn + classes], [], name)
            for node in ast.walk(tree):
                if isinstance(node, ast.Name) and node.id in PYTHONS:
                    self.assertIn(node.id, OWN, (name, node.lineno))

    def test_each_name_is_used(self):
        for name, text, tree in trees():
            used = [node.id for node in ast.walk(tree) if isinstance(node, ast.Name)]
            drawn = [given.name for row in tree.body if isinstance(row, ast.ImportFrom) for given in row.names]
            self.assertEqual([word for word in drawn if word not in used], [], name)

    def test_methods(self):
        own = [row.name for name, text, tree in trees() for node in tree.body if isinstance(node, ast.ClassDef)
               for row in node.body if isinstance(row, ast.FunctionDef)]
        for name, text, tree in trees():
            for node in ast.walk(tree):
                if isinstance(node, ast.Call) and isinstance(node.func, ast.Attribute):
                    self.assertIn(node.func.attr, METHODS + own, (name, node.lineno))
            for node in ast.walk(tree):
                if isinstance(node, ast.ClassDef):
                    self.assertIn(node, tree.body, name)
                    self.assertLessEqual(len(node.bases), 1, name)
                    for row in node.body:
                        words = isinstance(row, ast.Expr) and isinstance(row.value, ast.Constant)
                        self.assertTrue(words or isinstance(row, ast.FunctionDef), (name, node.name))
                if isinstance(node, ast.FunctionDef) and node.name.startswith("__"):
                    self.assertIn(node.name, DOUBLE, name)

    def test_methods_and_values_bear_other_names(self):
        methods, values, asked, called = set(), set(), set(), set()
        for name, text, tree in trees():
            for node in ast.walk(tree):
                if isinstance(node, ast.ClassDef):
                    own = [row.name for row in node.body if isinstance(row, ast.FunctionDef)]
                    self.assertEqual(len(own), len(set(own)), (name, node.name))
                    methods |= set(own)
                if isinstance(node, ast.Attribute) and isinstance(node.ctx, ast.Store):
                    values.add(node.attr)
                if isinstance(node, ast.Attribute) and isinstance(node.ctx, ast.Load):
                    asked.add(node)
                if isinstance(node, ast.Call):
                    called.add(node.func)
        self.assertEqual(methods & values, set())
        self.assertEqual([node.attr for node in asked - called if node.attr not in values], [])
        python = {word for kind in (str, int, list, dict, set, bytes) for word in dir(kind)}
        self.assertEqual((methods | values) & python, {"__init__"})

    def test_tops_hold_plain_values_that_are_only_read(self):
        for name, text, tree in trees():
            kept = {row.targets[0].id: row.value for row in tree.body if isinstance(row, ast.Assign)}
            for value in kept.values():
                parts = list(ast.walk(value))
                self.assertEqual([part for part in parts if isinstance(part, (ast.Call, ast.ListComp))], [], name)
                within = [part for part in parts if isinstance(part, (ast.List, ast.Dict))]
                self.assertLessEqual(len(within), 1, name)
            for node in ast.walk(tree):
                if isinstance(node, ast.Subscript) and not isinstance(node.ctx, ast.Load):
                    self.assertFalse(isinstance(node.value, ast.Name) and node.value.id in kept, (name, node.lineno))

    def test_sets(self):
        for name, text, tree in trees():
            let, found = set_places(tree)
            for node in found:
                self.assertIn(node, let, (name, node.lineno))


if __name__ == "__main__":
    unittest.main()
