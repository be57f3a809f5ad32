"""The form of the package: the parts of the language that it uses, sizes, names and imports."""

import ast
import builtins
import pathlib
import unittest

FOLDER = pathlib.Path(__file__).resolve().parent.parent / "cyclebounds"
FILES = sorted(FOLDER.glob("*.py"))

# What the package uses is less than what the rules allow; what stands here is allowed everywhere.
NODES = (
    ast.Module, ast.ImportFrom, ast.alias, ast.FunctionDef, ast.ClassDef, ast.arguments, ast.arg, ast.Expr, ast.Assign,
    ast.Return, ast.Raise, ast.If, ast.For, ast.While, ast.Break, ast.Continue, ast.Name, ast.Attribute, ast.Subscript,
    ast.Slice, ast.Constant, ast.Tuple, ast.List, ast.Dict, ast.Call, ast.keyword, ast.BinOp, ast.BoolOp, ast.UnaryOp,
    ast.Compare, ast.IfExp, ast.ListComp, ast.comprehension, ast.JoinedStr, ast.FormattedValue, ast.Load, ast.Store,
    ast.Add, ast.Sub, ast.Mult, ast.FloorDiv, ast.Mod, ast.USub, ast.And, ast.Or, ast.Not, ast.Eq, ast.NotEq, ast.Lt,
    ast.LtE, ast.Gt, ast.GtE, ast.In, ast.NotIn, ast.Is, ast.IsNot, ast.Try, ast.ExceptHandler,
    ast.Pow,
)
BUILTINS = ("len", "range", "enumerate", "zip", "min", "max", "sum", "abs", "sorted", "reversed", "int", "str", "bool",
            "list", "tuple", "dict", "isinstance", "any", "all", "iter", "ValueError", "TypeError")
METHODS = ("append", "endswith", "get", "isascii", "isdigit", "items", "join", "partition", "pop", "replace", "split",
           "startswith", "strip")
METHODS_OF_OWN = ("__init__", "__eq__", "__str__", "__add__", "__sub__", "__neg__", "__len__", "__iter__")
ERRORS = ("Fault", "Malformed", "NoText", "Refused")
WORDS = ("type", "typing", "enum", "dataclass", "overload", "contextmanager", "elements", "open", "input", "law",
         "register", "mro", "eval", "exec", "compile", "getattr", "setattr", "vars", "dir", "id", "super")


def trees():
    return [(path, ast.parse(path.read_text())) for path in FILES]


def names_in(node):
    """All names that the code of a node binds or reads, attributes included."""
    found = []
    for part in ast.walk(node):
        for field in ("id", "attr", "name", "arg"):
            if isinstance(getattr(part, field, None), str):
                found.append(getattr(part, field))
    return found


def functions(tree):
    return [node for node in ast.walk(tree) if isinstance(node, ast.FunctionDef)]


def is_builtin(name):
    # Whoever shows a value in a console leaves `_` among the builtins, doctest as well.
    return name != "_" and hasattr(builtins, name)


def bound_in(function):
    """The names of the parameters and local variables of a function."""
    stored = [node.id for node in ast.walk(function) if isinstance(node, ast.Name) and isinstance(node.ctx, ast.Store)]
    named = function.args.args + function.args.kwonlyargs
    return stored + [argument.arg for argument in named] + handled_in(function)


def handled_in(function):
    """The names that handlers in a function give to errors."""
    return [node.name for node in ast.walk(function) if isinstance(node, ast.ExceptHandler) and node.name]


class Form(unittest.TestCase):
    def test_files(self):
        self.assertTrue(FILES)
        kept = [path.name for path in FOLDER.iterdir() if path.name != "__pycache__"]
        self.assertEqual(sorted(kept), [path.name for path in FILES])
        for path in FILES:
            text = path.read_text()
            self.assertTrue(text.isascii() and "\t" not in text and "\r" not in text, path)
            self.assertLessEqual(len(text.splitlines()), 399, path)
            self.assertLessEqual(max(len(line) for line in text.splitlines()), 120, path)

    def test_parts_of_the_language(self):
        for path, tree in trees():
            for node in ast.walk(tree):
                self.assertIsInstance(node, NODES, (path.name, getattr(node, "lineno", 0)))
            for node in functions(tree):
                self.assertLessEqual(node.end_lineno - node.lineno + 1, 40, node.name)
                self.assertTrue(ast.get_docstring(node) or node.name.startswith("__"), node.name)
                self.assertFalse(node.decorator_list)
            for node in tree.body[1:]:
                self.assertIsInstance(node, (ast.ImportFrom, ast.Assign, ast.FunctionDef, ast.ClassDef))

    def test_exponents(self):
        for path, tree in trees():
            for node in ast.walk(tree):
                if isinstance(node, ast.BinOp) and isinstance(node.op, ast.Pow):
                    self.assertTrue(isinstance(node.right, ast.Constant) and 0 <= node.right.value <= 64, path)

    def test_strings(self):
        for path, tree in trees():
            for node in ast.walk(tree):
                if isinstance(node, ast.Constant) and isinstance(node.value, str):
                    self.assertNotIn("%", node.value, path)
            self.assertNotIn("\\", path.read_text().replace("\\n", ""), path)

    def test_names(self):
        for path, tree in trees():
            imported = [alias.name for node in tree.body if isinstance(node, ast.ImportFrom) for alias in node.names]
            classes = [node.name for node in tree.body if isinstance(node, ast.ClassDef)]
            self.assertEqual(len(imported), len(set(imported)), path)
            for name in names_in(tree):
                self.assertNotIn(name, WORDS, path)
                self.assertTrue(not name.startswith("__") or name in METHODS_OF_OWN, (path, name))
            for function in functions(tree):
                for name in bound_in(function):
                    self.assertNotIn(name, imported + classes, (path, function.name))
                    self.assertFalse(is_builtin(name), (path, name))

    def test_builtins_and_methods(self):
        own = {node.name for _, tree in trees() for node in functions(tree)}
        for path, tree in trees():
            for node in ast.walk(tree):
                if isinstance(node, ast.ExceptHandler):
                    self.assertIn(node.type.id, ERRORS, path)
                if isinstance(node, ast.Name) and is_builtin(node.id):
                    self.assertIn(node.id, BUILTINS, path)
                if isinstance(node, ast.Call) and isinstance(node.func, ast.Attribute):
                    self.assertIn(node.func.attr, tuple(own) + METHODS, path)
                if isinstance(node, ast.Call) and isinstance(node.func, ast.Name):
                    self.assertFalse(node.keywords and is_builtin(node.func.id), path)

    def test_imports(self):
        defined = {}
        for path, tree in trees():
            defined[path.stem] = [node.name for node in tree.body if isinstance(node, (ast.FunctionDef, ast.ClassDef))]
            defined[path.stem] += [target.id for node in tree.body if isinstance(node, ast.Assign)
                                   for target in node.targets]
        needs = {}
        for path, tree in trees():
            read = [node.id for node in ast.walk(tree) if isinstance(node, ast.Name)]
            needs[path.stem] = []
            for node in [node for node in ast.walk(tree) if isinstance(node, ast.ImportFrom)]:
                self.assertTrue(node in tree.body and node.level == 0)
                names = [alias.name for alias in node.names if alias.asname is None]
                self.assertEqual(len(names), len(node.names))
                for name in names:
                    self.assertIn(name, read, path)
                if node.module == "math":
                    self.assertEqual(names, ["gcd"])
                else:
                    package, file = node.module.split(".")
                    self.assertEqual(package, "cyclebounds")
                    self.assertLessEqual(set(names), set(defined[file]), path)
                    needs[path.stem].append(file)
        self.check_no_rounds(needs)

    def check_no_rounds(self, needs):
        left = dict(needs)
        while left:
            free = [name for name, files in left.items() if not set(files) & set(left)]
            self.assertTrue(free, left)
            for name in free:
                del left[name]
