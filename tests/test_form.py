"""The interface stands where the document lists it, and the package keeps to the form that can be seen."""

import ast
import builtins
import inspect
import pathlib
import unittest

import wearybeams
from wearybeams import errors, rows, yards

PACKAGE = pathlib.Path(wearybeams.__file__).resolve().parent

# each file's functions and classes: a function's parameters, a class's methods with theirs
INTERFACE = {
    "errors": {name: {} for name in [
        "BeamError", "NoYard", "NoRow", "NoWorld", "NoPan", "NoBeam", "NoStep", "NoAsk", "NoDeed", "NoText", "Torn",
        "TooMany"]},
    "yards": {
        "Yard": {"__init__": "(self, things, beams, *, most=20, lean=3)", "things": "(self)", "beams": "(self)",
                 "most": "(self)", "lean": "(self)", "step": "(self, beam)", "__eq__": "(self, other)"},
        "is_name": "(thing)"},
    "rows": {"is_weighing": "(yard, thing)", "is_row": "(yard, thing)", "need_log": "(yard, log)",
             "weighings": "(yard)"},
}
MODULES = {"errors": errors, "yards": yards, "rows": rows}

BUILTINS = (
    "len range enumerate zip min max sum abs sorted reversed int str bool bytes list tuple dict set isinstance ord "
    "repr any all divmod pow type map iter next super Exception ValueError TypeError KeyError IndexError LookupError "
    "ZeroDivisionError NotImplemented StopIteration property staticmethod classmethod").split()


def files():
    return sorted(PACKAGE.glob("*.py"))


def tree_of(path):
    return ast.parse(path.read_text())


def nodes(kind):
    """Each node of a kind in the package, with its file's name."""
    return [(path.name, node) for path in files() for node in ast.walk(tree_of(path)) if isinstance(node, kind)]


class Interface(unittest.TestCase):
    def test_each_stands_in_its_file(self):
        for file, names in INTERFACE.items():
            top = [node for node in tree_of(PACKAGE / (file + ".py")).body
                   if isinstance(node, (ast.FunctionDef, ast.ClassDef))]
            self.assertLessEqual(set(names), {node.name for node in top})

    def test_parameters(self):
        for file, names in INTERFACE.items():
            for name, told in names.items():
                if isinstance(told, str):
                    self.assertEqual(str(inspect.signature(getattr(MODULES[file], name))), told)

    def test_methods_stand_in_their_class(self):
        for file, names in INTERFACE.items():
            for name, told in names.items():
                if isinstance(told, dict):
                    for method, parameters in told.items():
                        defined = vars(getattr(MODULES[file], name))[method]
                        self.assertEqual(str(inspect.signature(defined)), parameters)


class Form(unittest.TestCase):
    def test_plain_files_alone(self):
        found = [path for path in PACKAGE.iterdir() if path.name != "__pycache__"]
        self.assertEqual(sorted(found), files())

    def test_sizes(self):
        for path in files():
            lines = path.read_text().split("\n")
            self.assertLessEqual(len(lines), 399, path.name)
            self.assertLessEqual(max(len(line) for line in lines), 120, path.name)
        for name, node in nodes(ast.FunctionDef):
            self.assertLessEqual(node.end_lineno - node.lineno + 1, 40, (name, node.name))

    def test_signs(self):
        for path in files():
            for sign in path.read_bytes():
                self.assertTrue(sign == 10 or 32 <= sign <= 126, (path.name, sign))
        for name, node in nodes(ast.Constant):
            self.assertNotIn("%", str(node.value), name)

    def test_imports(self):
        library = ["heapq", "math", "itertools", "collections"]
        self.assertEqual(nodes(ast.Import), [])
        for name, node in nodes(ast.ImportFrom):
            self.assertEqual(node.level, 0)
            if node.module not in library:
                package, file = node.module.split(".")
                self.assertEqual(package, "wearybeams")
                defined = {top.name if hasattr(top, "name") else top.targets[0].id
                           for top in tree_of(PACKAGE / (file + ".py")).body
                           if isinstance(top, (ast.FunctionDef, ast.ClassDef, ast.Assign))}
                self.assertLessEqual({alias.name for alias in node.names}, defined, name)

    def test_builtins(self):
        for name, node in nodes(ast.Name):
            if hasattr(builtins, node.id):
                self.assertIn(node.id, BUILTINS, name)
                self.assertIsInstance(node.ctx, ast.Load, name)
        for name, node in nodes(ast.arg):
            self.assertFalse(hasattr(builtins, node.arg), (name, node.arg))

    def test_statements_and_values(self):
        # no generator expressions: any, all and the like want a list where a class has __eq__
        self.assertEqual(nodes((ast.AsyncFunctionDef, ast.GeneratorExp, ast.Div, ast.Set)), [])
        for name, node in nodes(ast.Constant):
            self.assertNotIsInstance(node.value, (float, complex), name)


if __name__ == "__main__":
    unittest.main()
