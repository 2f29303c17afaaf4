"""The form of the package: those rules of the language subset that a short look at the code shows."""

import ast
import builtins
import os
import unittest

FOLDER = os.path.join(os.path.dirname(os.path.dirname(os.path.abspath(__file__))), "triplefree")
CALLED = ["len", "range", "enumerate", "zip", "min", "max", "sum", "abs", "sorted", "reversed", "int", "str", "bool"]
CALLED += ["list", "tuple", "dict", "set", "isinstance", "repr", "any", "all", "divmod", "super"]
ERRORS = ["ValueError", "RuntimeError", "OverflowError", "TypeError", "KeyError", "IndexError", "LookupError"]
BUILTINS = vars(builtins)
STATEMENTS = (ast.Global, ast.AsyncFunctionDef, ast.AsyncFor, ast.AsyncWith, ast.Await, ast.Div)
DOUBLE = ["__init__", "__eq__", "__repr__", "__str__", "__len__"]
DECORATORS = ["property", "staticmethod", "classmethod"]
VALUES = (ast.Constant, ast.Tuple, ast.Dict, ast.BinOp, ast.Pow, ast.Load, ast.Name)
BARRED = ["typing", "enum", "namedtuple", "dataclass", "overload", "contextmanager", "abstractmethod", "_wall"]


def file_names():
    """The names of the files of the package."""
    return sorted(name for name in os.listdir(FOLDER) if name != "__pycache__")


def sources():
    """The name, text and syntax tree of each file."""
    for name in file_names():
        with open(os.path.join(FOLDER, name), encoding="utf-8", newline="") as file:
            text = file.read()
        yield name, text, ast.parse(text)


def nodes(kind):
    """All parts of a kind in all files, with the name of the file."""
    return [(name, node) for name, _, tree in sources() for node in ast.walk(tree) if isinstance(node, kind)]


class FormTest(unittest.TestCase):
    def test_files(self):
        for name in file_names():
            self.assertRegex(name, r"^[a-z_]+\.py$")
        self.assertIn("__init__.py", file_names())

    def test_lines_and_characters(self):
        for name, text, _ in sources():
            lines = text.split("\n")
            self.assertLessEqual(len(lines), 399, name)
            for line in lines:
                self.assertLessEqual(len(line), 120, (name, line))
                self.assertTrue(all(" " <= c <= "~" for c in line), (name, line))
            for word in BARRED:
                self.assertNotRegex(text, rf"\b{word}\b", name)

    def test_functions_are_short_and_plain(self):
        for name, node in nodes(ast.FunctionDef):
            self.assertLessEqual(node.end_lineno - node.lineno + 1, 40, (name, node.name))
            for decorator in node.decorator_list:
                self.assertIn(decorator.id, DECORATORS, (name, node.name))
            if node.name.startswith("__"):
                self.assertIn(node.name, DOUBLE, name)

    def test_imports(self):
        own = ["triplefree." + name[:-3] for name in file_names()]
        self.assertEqual(nodes(ast.Import), [])
        for name, node in nodes(ast.ImportFrom):
            self.assertIn(node.module, own, name)
            self.assertEqual(node.level, 0, name)
            self.assertTrue(all(alias.asname is None and alias.name != "*" for alias in node.names), name)

    def test_no_circle_of_imports(self):
        before = {}
        for name, node in nodes(ast.ImportFrom):
            before.setdefault(name, []).append(node.module.split(".")[1] + ".py")
        done = []
        while len(done) < len(file_names()):
            ready = [n for n in file_names() if n not in done and all(m in done for m in before.get(n, []))]
            self.assertTrue(ready)
            done += ready

    def test_module_level(self):
        for name, _, tree in sources():
            bound = []
            functions = []
            for node in tree.body:
                self.assertIsInstance(node, (ast.Expr, ast.ImportFrom, ast.FunctionDef, ast.ClassDef, ast.Assign), name)
                if isinstance(node, ast.Expr):
                    self.assertIsInstance(node.value, ast.Constant, name)
                if isinstance(node, ast.ImportFrom):
                    bound += [alias.name for alias in node.names]
                elif isinstance(node, (ast.FunctionDef, ast.ClassDef)):
                    bound.append(node.name)
                    functions += [node.name] * isinstance(node, ast.FunctionDef)
                elif isinstance(node, ast.Assign):
                    for part in ast.walk(node.value):
                        self.assertIsInstance(part, VALUES, name)
                        # A table may hold functions that are defined above it.
                        self.assertIn(getattr(part, "id", None), [None, *functions], name)
                    bound.append(node.targets[0].id)
            self.assertEqual(len(bound), len(set(bound)), name)

    def test_no_barred_statements_and_values(self):
        self.assertEqual(nodes(STATEMENTS), [])
        for name, node in nodes(ast.Constant):
            self.assertIsInstance(node.value, (int, str, bool, type(None)), (name, node.lineno))
            if isinstance(node.value, str):
                self.assertNotIn("%", node.value, (name, node.lineno))
                self.assertNotIn("\\", node.value, (name, node.lineno))
        for name, node in nodes(ast.BinOp):
            if isinstance(node.op, ast.Pow):
                self.assertIsInstance(node.right, ast.Constant, (name, node.lineno))

    def test_builtins_are_called_and_allowed(self):
        for name, _, tree in sources():
            called = [node.func for node in ast.walk(tree) if isinstance(node, ast.Call)]
            for node in ast.walk(tree):
                if isinstance(node, ast.Name) and node.id in BUILTINS and node not in called:
                    self.assertIn(node.id, [*ERRORS, *DECORATORS, "list", "tuple", "int", "bool", "str"], name)
                if isinstance(node, ast.Call) and isinstance(node.func, ast.Name):
                    if node.func.id in BUILTINS:
                        self.assertIn(node.func.id, CALLED, (name, node.lineno))

    def test_no_name_of_a_builtin_is_bound(self):
        for name, node in nodes((ast.arg, ast.Name, ast.FunctionDef, ast.ClassDef)):
            if isinstance(node, ast.Name) and not isinstance(node.ctx, ast.Store):
                continue
            bound = getattr(node, "arg", None) or getattr(node, "id", None) or node.name
            self.assertFalse(bound in BUILTINS, (name, bound))

    def test_no_generator_expressions(self):
        self.assertEqual(nodes(ast.GeneratorExp), [])

    def test_handlers_name_own_errors(self):
        for name, node in nodes(ast.ExceptHandler):
            listed = node.type.elts if isinstance(node.type, ast.Tuple) else [node.type]
            for item in listed:
                self.assertNotIn(item.id, BUILTINS, (name, node.lineno))

    def test_generators_have_their_names_alone(self):
        makers = {}
        for name, node in nodes(ast.FunctionDef):
            yields = any(isinstance(part, (ast.Yield, ast.YieldFrom)) for part in ast.walk(node))
            makers.setdefault(node.name, set()).add(yields)
        for name, found in makers.items():
            self.assertEqual(len(found), 1, name)


if __name__ == "__main__":
    unittest.main()
