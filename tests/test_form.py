"""The part of Python that the package keeps to: what of its rules L1 to L28 can be seen file by file."""

import ast
import builtins
import functools
import pathlib
import re
import unittest

PACKAGE = pathlib.Path(__file__).resolve().parent.parent / "pursewright"
FILES = sorted(path for path in PACKAGE.rglob("*") if path.is_file() and path.parent.name != "__pycache__")

OWN_CALLS = (
    "len range enumerate zip min max sum abs sorted reversed int str bool list tuple dict isinstance ord repr any all"
    " divmod Exception ValueError TypeError KeyError IndexError LookupError ZeroDivisionError ArithmeticError"
    " OverflowError RuntimeError NotImplementedError AttributeError StopIteration"
).split()
METHODS = (
    "append clear copy count endswith extend find get index insert isalnum isalpha isdigit islower isspace isupper"
    " items join keys ljust lower lstrip partition pop remove replace reverse rfind rjust rpartition rsplit rstrip"
    " setdefault split splitlines startswith strip update upper values zfill bit_length"
).split()
STATEMENTS = (
    ast.Assign, ast.AugAssign, ast.If, ast.While, ast.For, ast.Return, ast.Break, ast.Continue, ast.Pass, ast.Raise,
    ast.Try, ast.Expr, ast.FunctionDef,
)
EXPRESSIONS = (
    ast.Constant, ast.List, ast.Tuple, ast.Dict, ast.BinOp, ast.UnaryOp, ast.BoolOp, ast.Compare, ast.IfExp, ast.Call,
    ast.Attribute, ast.Subscript, ast.Slice, ast.ListComp, ast.JoinedStr, ast.FormattedValue, ast.Name, ast.Lambda,
)
TWO_UNDERSCORES = ("__init__", "__eq__", "__repr__", "__str__", "__len__")
NO_WORDS = (
    "type typing typing_extensions enum Enum IntEnum StrEnum Flag IntFlag Generic Protocol ABC ABCMeta namedtuple"
    " NamedTuple TypedDict TYPE_CHECKING abstractmethod"
).split()
NO_NAMES = (
    "register mro elements open input version_info with_traceback add_note attrgetter breakpoint builtins compile"
    " copyright credits delattr dir eval exec exit gc getattr globals hasattr help id importlib license locals"
    " methodcaller os quit setattr super vars sys format format_map"
).split()
NO_VALUES = (
    "items keys values pop update append clear extend insert remove reverse setdefault sort args encode format"
).split()
WALKERS = ("list", "tuple", "dict", "sorted", "sum", "any", "all", "enumerate", "zip", "min", "max")
KEYWORDS = {"sorted": ("key", "reverse"), "min": ("key", "default"), "max": ("key", "default"), "sum": ("start",),
            "enumerate": ("start",), "zip": ("strict",)}


@functools.cache
def trees():
    return [(path, ast.parse(path.read_text(encoding="utf-8"))) for path in FILES]


def nodes(kind):
    return [(path, node) for path, tree in trees() for node in ast.walk(tree) if isinstance(node, kind)]


def is_docstring(node):
    return isinstance(node, ast.Expr) and isinstance(node.value, ast.Constant) and isinstance(node.value.value, str)


def is_plain(node):
    if isinstance(node, (ast.Tuple, ast.List)):
        return all(is_plain(part) for part in node.elts)
    if isinstance(node, ast.Dict):
        return all(is_plain(part) for part in node.keys + node.values)
    return isinstance(node, (ast.Constant, ast.Name))


def bound_names(tree):
    """Each name that is bound anywhere in the file, but at its top."""
    names = [node.arg for node in ast.walk(tree) if isinstance(node, ast.arg)]
    inner = [node for top in tree.body if isinstance(top, (ast.FunctionDef, ast.ClassDef)) for node in ast.walk(top)]
    return names + [node.id for node in inner if isinstance(node, ast.Name) and isinstance(node.ctx, ast.Store)]


def top_names(tree):
    names = []
    for node in tree.body:
        if isinstance(node, ast.Assign):
            names.append(node.targets[0].id)
        elif isinstance(node, (ast.FunctionDef, ast.ClassDef)):
            names.append(node.name)
        elif isinstance(node, ast.ImportFrom):
            names.extend(part.name for part in node.names)
    return names


@functools.cache
def class_names():
    return [node.name for path, node in nodes(ast.ClassDef)]


@functools.cache
def own_methods():
    return [part.name for path, node in nodes(ast.ClassDef) for part in node.body if isinstance(part, ast.FunctionDef)]


@functools.cache
def stored_values():
    return [node.attr for path, node in nodes(ast.Attribute) if isinstance(node.ctx, ast.Store)]


class FormTest(unittest.TestCase):
    def at(self, path, node):
        return f"{path.name}:{getattr(node, 'lineno', '?')}"

    def test_files(self):
        self.assertIn("__init__.py", [path.name for path in FILES])
        for path in FILES:
            self.assertRegex(path.name, r"\A[a-z_][a-z0-9_]*\.py\Z")
            self.assertEqual(path.parent, PACKAGE)
            self.assertFalse(re.match(r"test|site|conftest|sitecustomize|usercustomize", path.stem), path.name)
            self.assertFalse(path.stem in dir(builtins) and path.stem != "__init__", path.name)
            self.assertNotIn(path.stem, NO_WORDS)

    def test_signs_and_sizes(self):
        for path in FILES:
            lines = path.read_bytes().decode("ascii").split("\n")
            self.assertLessEqual(len(lines), 401, path.name)
            for number, line in enumerate(lines):
                self.assertLessEqual(len(line), 120, f"{path.name}:{number + 1}")
                self.assertTrue(all(" " <= sign <= "~" for sign in line), f"{path.name}:{number + 1}")
        for path, node in nodes(ast.FunctionDef):
            self.assertLessEqual(node.end_lineno - node.lineno + 1, 40, self.at(path, node))

    def test_words(self):
        for path in FILES:
            text = path.read_text(encoding="utf-8")
            for word in re.findall(r"\w+", text):
                self.assertNotIn(word, NO_WORDS, path.name)
            self.assertNotRegex(text, "dataclass|overload|contextmanager")
            self.assertNotRegex(text, r"\\[^nt\\'\"]")

    def test_top_of_a_file(self):
        for path, tree in trees():
            self.assertTrue(is_docstring(tree.body[0]), path.name)
            for node in tree.body[1:]:
                fine = isinstance(node, (ast.ImportFrom, ast.FunctionDef, ast.ClassDef))
                if isinstance(node, ast.Assign):
                    fine = len(node.targets) == 1 and isinstance(node.targets[0], ast.Name) and is_plain(node.value)
                self.assertTrue(fine, self.at(path, node))
            names = top_names(tree)
            self.assertEqual(len(names), len(set(names)), path.name)

    def test_imports(self):
        drawn = {}
        for path, tree in trees():
            drawn[path.stem] = []
            for node in ast.walk(tree):
                self.assertNotIsInstance(node, ast.Import, path.name)
                if isinstance(node, ast.ImportFrom):
                    self.assertIn(node, tree.body, self.at(path, node))
                    self.assertEqual(node.level, 0)
                    self.assertRegex(node.module, r"\Apursewright\.[a-z_]+\Z")
                    stem = node.module.partition(".")[2]
                    drawn[path.stem].append(stem)
                    source = ast.parse((PACKAGE / (stem + ".py")).read_text(encoding="utf-8"))
                    own = [name for name in top_names(source) if name not in self.imported(source)]
                    for part in node.names:
                        self.assertIn(part.name, own, self.at(path, node))
                        self.assertIsNone(part.asname)
        self.check_no_ring(drawn)

    def imported(self, tree):
        return [part.name for node in tree.body if isinstance(node, ast.ImportFrom) for part in node.names]

    def check_no_ring(self, drawn):
        left = dict(drawn)
        while left:
            free = [stem for stem in left if not [other for other in left[stem] if other in left]]
            self.assertTrue(free, left)
            left = {stem: left[stem] for stem in left if stem not in free}

    def test_functions(self):
        for path, node in nodes((ast.FunctionDef, ast.Lambda)):
            args = node.args
            self.assertFalse(args.vararg or args.kwarg or args.kwonlyargs or args.posonlyargs, self.at(path, node))
            self.assertTrue(all(is_plain(value) for value in args.defaults), self.at(path, node))
            self.assertFalse([arg for arg in args.args if arg.annotation], self.at(path, node))
            if isinstance(node, ast.FunctionDef):
                self.assertFalse(node.decorator_list or node.returns, self.at(path, node))

    def test_classes(self):
        for path, node in nodes(ast.ClassDef):
            self.assertFalse(node.decorator_list or node.keywords, self.at(path, node))
            self.assertLessEqual(len(node.bases), 1)
            names = [part.name for part in node.body if isinstance(part, ast.FunctionDef)]
            self.assertEqual(len(names), len(set(names)))
            for part in node.body:
                self.assertTrue(is_docstring(part) or isinstance(part, ast.FunctionDef), self.at(path, part))
        self.assertEqual(set(own_methods()) & set(stored_values()), set())
        for name in own_methods():
            if name not in TWO_UNDERSCORES:
                taken = [kind for kind in (str, int, list, dict, set, bytes, tuple) if hasattr(kind, name)]
                self.assertTrue(not taken or name in METHODS + ["add", "discard"], name)
        for name in stored_values():
            self.assertNotIn(name, NO_VALUES)

    def test_class_names_stand_where_they_may(self):
        for path, tree in trees():
            for node in ast.walk(tree):
                for child in ast.iter_child_nodes(node):
                    if isinstance(child, ast.Name) and child.id in class_names():
                        fine = isinstance(node, (ast.ClassDef, ast.ExceptHandler))
                        fine = fine or isinstance(node, ast.Call) and (node.func is child or self.asks(node))
                        self.assertTrue(fine, self.at(path, child))

    def asks(self, call):
        return isinstance(call.func, ast.Name) and call.func.id == "isinstance"

    def test_statements(self):
        for path, node in nodes(ast.stmt):
            if isinstance(node, (ast.ImportFrom, ast.ClassDef)):
                continue
            self.assertIsInstance(node, STATEMENTS, self.at(path, node))
            if isinstance(node, ast.Assign):
                self.assertEqual(len(node.targets), 1, self.at(path, node))
                self.assertIsInstance(node.targets[0], (ast.Name, ast.Attribute, ast.Subscript), self.at(path, node))
            if isinstance(node, (ast.For, ast.While)):
                self.assertFalse(node.orelse, self.at(path, node))
            if isinstance(node, ast.Expr):
                self.assertTrue(is_docstring(node) or isinstance(node.value, ast.Call), self.at(path, node))
            if isinstance(node, ast.Raise):
                self.assertIsInstance(node.exc, ast.Call, self.at(path, node))
            if isinstance(node, ast.Try):
                self.assertFalse(node.finalbody, self.at(path, node))
                for handler in node.handlers:
                    self.assertIsInstance(handler.type, ast.Name, self.at(path, node))
                    self.assertIn(handler.type.id, class_names() + ["KeyError", "ZeroDivisionError"])

    def test_expressions(self):
        for path, node in nodes(ast.expr):
            where = self.at(path, node)
            self.assertIsInstance(node, EXPRESSIONS, where)
            if isinstance(node, ast.Constant):
                self.assertIn(type(node.value), (int, str, bool, type(None)), where)
                self.assertNotIn("%", str(node.value), where)
            if isinstance(node, ast.BinOp):
                self.assertNotIsInstance(node.op, (ast.Div, ast.MatMult), where)
                if isinstance(node.op, ast.Pow):
                    self.assertTrue(isinstance(node.right, ast.Constant) and 0 <= node.right.value <= 64, where)
            if isinstance(node, ast.ListComp):
                self.assertEqual(len(node.generators), 1, where)
                self.assertLessEqual(len(node.generators[0].ifs), 1, where)
            if isinstance(node, ast.FormattedValue):
                self.assertIsInstance(node.value, ast.Name, where)
                self.assertIn(node.conversion, (-1, ord("r")), where)
                self.assertIsNone(node.format_spec, where)
            if isinstance(node, ast.Compare) and [op for op in node.ops if isinstance(op, (ast.Is, ast.IsNot))]:
                self.assertIsInstance(node.comparators[-1], ast.Constant, where)

    def test_names(self):
        for path, tree in trees():
            classes = [node.name for node in tree.body if isinstance(node, ast.ClassDef)]
            for name in bound_names(tree):
                self.assertFalse(name.startswith("_"), f"{path.name}: {name}")
                self.assertFalse(hasattr(builtins, name), f"{path.name}: {name}")
                self.assertNotIn(name, self.imported(tree) + classes, path.name)
            for node in ast.walk(tree):
                if isinstance(node, ast.Name):
                    known = node.id in OWN_CALLS or not hasattr(builtins, node.id)
                    self.assertTrue(known and node.id not in NO_NAMES, self.at(path, node))
                if isinstance(node, ast.Attribute):
                    self.assertNotIn(node.attr, NO_NAMES, self.at(path, node))
                if isinstance(node, ast.FunctionDef):
                    self.assertTrue(node.name in TWO_UNDERSCORES or not node.name.startswith("_"), node.name)

    def test_calls(self):
        for path, node in nodes(ast.Call):
            where = self.at(path, node)
            if isinstance(node.func, ast.Attribute):
                self.assertIn(node.func.attr, METHODS + own_methods(), where)
                self.assertFalse(node.keywords, where)
            elif isinstance(node.func, ast.Name) and hasattr(builtins, node.func.id):
                for keyword in node.keywords:
                    self.assertIn(keyword.arg, KEYWORDS.get(node.func.id, ()), where)

    def test_methods_are_called_where_they_stand(self):
        called = [id(node.func) for path, tree in trees() for node in ast.walk(tree) if isinstance(node, ast.Call)]
        for path, tree in trees():
            for node in ast.walk(tree):
                if isinstance(node, ast.Attribute) and node.attr in METHODS + own_methods():
                    self.assertIn(id(node), called, self.at(path, node))

    def test_walked_at_once(self):
        for path, tree in trees():
            fine = []
            for node in ast.walk(tree):
                if isinstance(node, (ast.For, ast.comprehension)):
                    fine.append(id(node.iter))
                if isinstance(node, ast.Call) and isinstance(node.func, ast.Name) and node.func.id in WALKERS:
                    fine.extend(id(part) for part in node.args[:1])
                if isinstance(node, ast.Call) and isinstance(node.func, ast.Attribute) and node.func.attr == "join":
                    fine.extend(id(part) for part in node.args)
            for node in ast.walk(tree):
                if isinstance(node, ast.Call) and self.walks(node):
                    self.assertIn(id(node), fine, self.at(path, node))

    def walks(self, call):
        if isinstance(call.func, ast.Name):
            return call.func.id in ("zip", "enumerate", "reversed", "range")
        return isinstance(call.func, ast.Attribute) and call.func.attr in ("items", "keys", "values")


if __name__ == "__main__":
    unittest.main()
