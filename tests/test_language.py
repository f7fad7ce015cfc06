"""The form of the package's code: those rules of LANGUAGE.md that can be seen file by file."""

import ast
import builtins
import os
import re
import unittest

ROOT = os.path.dirname(os.path.dirname(os.path.abspath(__file__)))
PACKAGE = os.path.join(ROOT, "tonguegate")

BARRED_WORDS = (
    "type", "typing", "typing_extensions", "enum", "Enum", "IntEnum", "StrEnum", "Flag", "IntFlag", "Generic",
    "Protocol", "ABC", "ABCMeta", "namedtuple", "NamedTuple", "TypedDict", "TYPE_CHECKING", "abstractmethod",
)
BARRED_PIECES = ("dataclass", "overload", "contextmanager")
BARRED_NAMES = (
    "register", "mro", "elements", "open", "input", "version_info", "with_traceback", "add_note", "format", "format_map",
    "attrgetter", "breakpoint", "compile", "copyright", "credits", "delattr", "dir", "eval", "exec", "exit", "gc",
    "getattr", "globals", "hasattr", "help", "id", "importlib", "license", "locals", "methodcaller", "os", "quit",
    "setattr", "super", "vars", "sys", "chr",
)
BUILTINS = (
    "len", "range", "enumerate", "zip", "min", "max", "sum", "abs", "sorted", "reversed", "int", "str", "bool", "bytes",
    "list", "tuple", "dict", "set", "frozenset", "isinstance", "ord", "repr", "any", "all", "divmod", "Exception",
    "ValueError", "TypeError", "KeyError", "IndexError", "LookupError", "ZeroDivisionError", "ArithmeticError",
    "OverflowError", "RuntimeError", "NotImplementedError", "AttributeError", "StopIteration",
)
METHODS = ("__init__", "__eq__", "__repr__", "__str__", "__len__")
# Methods of builtin values, and attributes of no class of the package.
BUILTIN_METHODS = (
    "append", "clear", "copy", "count", "endswith", "extend", "find", "get", "index", "insert", "isalnum", "isalpha",
    "isdigit", "islower", "isspace", "isupper", "items", "join", "keys", "ljust", "lower", "lstrip", "partition", "pop",
    "remove", "replace", "reverse", "rfind", "rjust", "rpartition", "rsplit", "rstrip", "setdefault", "split",
    "splitlines", "startswith", "strip", "update", "upper", "values", "zfill", "bit_length", "decode", "encode",
)
BARRED_NODES = (
    ast.With, ast.Match, ast.Global, ast.Nonlocal, ast.Yield, ast.YieldFrom, ast.AsyncFunctionDef, ast.AsyncFor,
    ast.AsyncWith, ast.Await, ast.Import, ast.GeneratorExp, ast.NamedExpr, ast.Div, ast.MatMult, ast.AnnAssign,
    # The package creates bytes, so that a sign of the hundredth would need a left side that is surely a number.
    ast.Mod,
)


def files():
    return sorted(name for name in os.listdir(PACKAGE) if name != "__pycache__")


def source(name):
    with open(os.path.join(PACKAGE, name), "rb") as file:
        return file.read().decode("ascii")


def trees():
    return {name: ast.parse(source(name)) for name in files()}


def bound_at_top(tree):
    """The names that a module binds, in order."""
    names = []
    for node in tree.body:
        if isinstance(node, (ast.FunctionDef, ast.ClassDef)):
            names.append(node.name)
        elif isinstance(node, ast.Assign):
            names += [target.id for target in node.targets]
        elif isinstance(node, ast.ImportFrom):
            names += [alias.asname or alias.name for alias in node.names]
    return names


def imported(tree):
    """The package's files that a module imports from."""
    return [node.module.split(".")[-1] + ".py" for node in tree.body if isinstance(node, ast.ImportFrom)]


class Form(unittest.TestCase):

    def test_files(self):
        self.assertIn("__init__.py", files())
        for name in files():
            self.assertRegex(name, r"\A[a-z0-9_]+\.py\Z")

    def test_signs_and_sizes(self):
        for name in files():
            text = source(name)
            self.assertTrue(all(sign == "\n" or " " <= sign <= "~" for sign in text), name)
            lines = text.splitlines()
            self.assertLessEqual(len(lines), 400, name)
            self.assertLessEqual(max(len(line) for line in lines), 120, name)

    def test_words(self):
        for name in files():
            text = source(name)
            words = set(re.findall(r"\w+", text))
            self.assertEqual(words & set(BARRED_WORDS), set(), name)
            for piece in BARRED_PIECES:
                self.assertNotIn(piece, text)

    def test_module_level(self):
        allowed = (ast.Expr, ast.ImportFrom, ast.FunctionDef, ast.ClassDef, ast.Assign)
        for name, tree in trees().items():
            for place, node in enumerate(tree.body):
                self.assertIsInstance(node, allowed, name)
                if isinstance(node, ast.Expr):
                    self.assertEqual(place, 0, name)
                    self.assertIsInstance(node.value.value, str)
                if isinstance(node, ast.Assign):
                    self.assertFalse([one for one in ast.walk(node) if isinstance(one, (ast.Call, ast.Set))], name)

    def test_one_binding_for_each_name(self):
        for name, tree in trees().items():
            names = bound_at_top(tree)
            self.assertEqual(len(names), len(set(names)), name)
            self.assertEqual([one for one in names if hasattr(builtins, one)], [], name)

    def test_imports_name_the_file_that_defines(self):
        every = trees()
        for name, tree in every.items():
            for node in ast.walk(tree):
                if not isinstance(node, ast.ImportFrom):
                    continue
                self.assertIn(node, tree.body, name)
                self.assertEqual(node.level, 0, name)
                self.assertTrue(node.module.startswith("tonguegate."), name)
                home = every[node.module.split(".")[-1] + ".py"]
                for alias in node.names:
                    defined = [one for one in home.body if not isinstance(one, ast.ImportFrom)]
                    self.assertIn(alias.name, bound_at_top(ast.Module(body=defined, type_ignores=[])), name)

    def test_imports_go_in_no_circle(self):
        left = {name: imported(tree) for name, tree in trees().items()}
        while left:
            free = [name for name, needs in left.items() if not set(needs) & set(left)]
            self.assertTrue(free, left)
            for name in free:
                del left[name]

    def test_statements_and_expressions(self):
        for name, tree in trees().items():
            for node in ast.walk(tree):
                self.assertNotIsInstance(node, BARRED_NODES, name)
                if isinstance(node, (ast.For, ast.While)):
                    self.assertEqual(node.orelse, [], name)
                if isinstance(node, ast.Constant):
                    self.assertNotIsInstance(node.value, (float, complex), name)
                    self.assertNotIn("%", node.value if isinstance(node.value, str) else "", name)
                if isinstance(node, ast.ExceptHandler):
                    self.assertIsNotNone(node.type, name)

    def test_identity_is_asked_of_none_and_truths_alone(self):
        for name, tree in trees().items():
            for node in ast.walk(tree):
                if isinstance(node, ast.Compare):
                    for sign, right in zip(node.ops, node.comparators):
                        if isinstance(sign, (ast.Is, ast.IsNot)):
                            self.assertIn(getattr(right, "value", 0), (None, True, False), name)

    def test_powers_have_a_literal_exponent(self):
        for name, tree in trees().items():
            for node in ast.walk(tree):
                if isinstance(node, ast.BinOp) and isinstance(node.op, ast.Pow):
                    self.assertIsInstance(node.right, ast.Constant, name)

    def test_functions(self):
        for name, tree in trees().items():
            for node in ast.walk(tree):
                if not isinstance(node, ast.FunctionDef):
                    continue
                self.assertLessEqual(node.end_lineno - node.lineno + 1, 40, node.name)
                self.assertEqual(node.decorator_list, [], node.name)
                self.assertIsNone(node.args.vararg, node.name)
                self.assertIsNone(node.args.kwarg, node.name)
                self.assertEqual(node.args.posonlyargs, [], node.name)

    def test_classes(self):
        for name, tree in trees().items():
            for node in ast.walk(tree):
                if not isinstance(node, ast.ClassDef):
                    continue
                self.assertIn(node, tree.body, node.name)
                self.assertLessEqual(len(node.bases), 1, node.name)
                self.assertEqual(node.decorator_list, [], node.name)
                for inner in node.body:
                    self.assertIsInstance(inner, (ast.FunctionDef, ast.Expr, ast.Pass), node.name)

    def test_methods_and_attributes(self):
        methods, attributes, read = set(), set(), set()
        for tree in trees().values():
            for node in ast.walk(tree):
                if isinstance(node, ast.ClassDef):
                    methods |= {inner.name for inner in node.body if isinstance(inner, ast.FunctionDef)}
                elif isinstance(node, ast.Attribute) and isinstance(node.ctx, ast.Store):
                    attributes.add(node.attr)
                elif isinstance(node, ast.Attribute):
                    read.add(node.attr)
        self.assertEqual(methods & attributes, set())
        self.assertEqual(read - methods - attributes - set(BUILTIN_METHODS), set())
        for name in attributes | methods - set(METHODS):
            for builtin in (str, int, list, dict, set, bytes, tuple):
                self.assertFalse(hasattr(builtin, name), name)

    def test_locals_are_named_unlike_imports_and_classes(self):
        for name, tree in trees().items():
            imports = [node for node in tree.body if isinstance(node, ast.ImportFrom)]
            taken = {alias.asname or alias.name for node in imports for alias in node.names}
            taken |= {node.name for node in tree.body if isinstance(node, ast.ClassDef)}
            for node in ast.walk(tree):
                for one, binds in self.names_in(node):
                    self.assertFalse(binds and one in taken, f"{name}: {one}")

    def test_counters_and_pairs_are_gone_through_at_once(self):
        for name, tree in trees().items():
            for node in ast.walk(tree):
                if isinstance(node, (ast.Assign, ast.Return)) and isinstance(node.value, ast.Call):
                    called = node.value.func
                    word = called.id if isinstance(called, ast.Name) else getattr(called, "attr", "")
                    self.assertNotIn(word, ("zip", "enumerate", "reversed", "range", "items", "keys", "values"), name)

    def test_errors_are_raised_on_the_spot(self):
        for name, tree in trees().items():
            for node in ast.walk(tree):
                if isinstance(node, ast.Raise) and node.exc is not None:
                    self.assertIsInstance(node.exc, ast.Call, name)
                    self.assertIsInstance(node.exc.func, ast.Name, name)

    def test_no_text_stands_in_the_braces_of_another(self):
        for name, tree in trees().items():
            for node in ast.walk(tree):
                if isinstance(node, ast.FormattedValue):
                    inner = [one for one in ast.walk(node.value) if isinstance(one, (ast.JoinedStr, ast.Constant))]
                    self.assertFalse([one for one in inner if isinstance(getattr(one, "value", ""), str)], name)

    def test_tables_are_only_read_where_they_stand(self):
        for name, tree in trees().items():
            tables = {node.targets[0].id for node in tree.body
                      if isinstance(node, ast.Assign) and isinstance(node.value, (ast.Dict, ast.List))}
            for node in ast.walk(tree):
                for child in ast.iter_child_nodes(node):
                    if isinstance(child, ast.Name) and child.id in tables and isinstance(child.ctx, ast.Load):
                        read = isinstance(node, ast.Attribute) and node.attr == "get"
                        read = read or (isinstance(node, ast.Subscript) and isinstance(node.ctx, ast.Load) and node.value is child)
                        self.assertTrue(read, f"{name}: {child.id}")

    def names_in(self, node):
        """What a node names, and whether it binds that name."""
        if isinstance(node, ast.Name):
            return [(node.id, not isinstance(node.ctx, ast.Load))]
        if isinstance(node, ast.arg):
            return [(node.arg, True)]
        if isinstance(node, ast.FunctionDef):
            return [(node.name, False)]
        if isinstance(node, ast.Attribute):
            return [(node.attr, False)]
        return []

    def test_names(self):
        for name, tree in trees().items():
            for node in ast.walk(tree):
                for one, binds in self.names_in(node):
                    self.assertTrue(not one.startswith("_") or one in METHODS, f"{name}: {one}")
                    self.assertNotIn(one, BARRED_NAMES, name)
                    self.assertFalse(binds and hasattr(builtins, one), f"{name}: {one}")
                    if isinstance(node, ast.Name) and hasattr(builtins, one):
                        self.assertIn(one, BUILTINS, name)


if __name__ == "__main__":
    unittest.main()
