"""The interface stands where the document lists it, and the package keeps to the form that can be seen."""

import ast
import builtins
import inspect
import pathlib
import unittest

import wearybeams
from wearybeams import (
    asking, books, desk, errors, house, judge, levels, nets, parting, plans, rows, sheets, stretches, texts, torn, ways,
    words, worlds, yards)

PACKAGE = pathlib.Path(wearybeams.__file__).resolve().parent

# each file's functions and classes: a function's parameters, a class's methods with theirs
INTERFACE = {
    "errors": {name: {} for name in [
        "BeamError", "NoYard", "NoRow", "NoWorld", "NoPan", "NoBeam", "NoStep", "NoAsk", "NoDeed", "NoText", "Torn",
        "TooMany"]},
    "yards": {
        "Yard": {"__init__": "(self, things, beams, *, most=20, lean=3)", "things": "(self)", "beams": "(self)",
                 "most": "(self)", "lean": "(self)", "step": "(self, beam)", "__eq__": "(self, other)"},
        "is_name": "(thing)"},
    "rows": {"is_weighing": "(yard, thing)", "is_row": "(yard, thing)", "need_log": "(yard, log)",
             "weighings": "(yard)"},
    "worlds": {"shifts": "(yard, log)", "told_by": "(yard, world, weighings)", "is_world": "(yard, log, thing)"},
    "ways": {"led": "(yard, log, pan, thing)", "worth_of": "(yard, log, way)", "worth_at": "(worth, leans)",
             "is_ring": "(yard, log, thing)"},
    "nets": {
        "Net": {"__init__": "(self, yard, log)", "yard": "(self)", "log": "(self)", "ring": "(self, leans)",
                "low": "(self, leans)", "high": "(self, leans)", "far": "(self, one, other, leans)",
                "way": "(self, one, other, leans)", "leans": "(self)", "worlds": "(self, most)"},
        "all_leans": "(yard)"},
    "torn": {"torn": "(net)", "is_tear": "(yard, log, thing)", "first_torn": "(yard, log)", "some_world": "(net)"},
    "stretches": {
        "apart": "(net, one, other)", "leaned": "(net, beam)", "leans_now": "(net, beam)",
        "apart_by": "(net, one, other, number)", "bar": "(net, one, other, first, last)",
        "is_bar": "(yard, log, one, other, first, last, thing)", "lean_bar": "(net, beam, first, last)",
        "is_lean_bar": "(yard, log, beam, first, last, thing)"},
    "sheets": {"sheet": "(net, one, other)", "is_sheet": "(yard, log, one, other, thing)"},
    "words": {"next_words": "(net, weighing)", "sure": "(net, weighing)", "sure_run": "(net, weighings)",
              "steered": "(net, beam, shift, *, most=12)"},
    "levels": {"tied": "(yard, weighings, beam)", "is_tie": "(yard, weighings, beam, thing)",
               "is_levelling": "(yard, weighings, beam, thing)", "moved": "(yard, world, levelling, times)",
               "loose": "(yard, weighings)"},
    "parting": {"rests": "(yard, world, weighing)", "rested": "(yard, world, weighings)",
                "alike": "(yard, one, other)", "parting": "(yard, one, other, *, log=())", "classes": "(net)"},
    "asking": {"Asker": {"__init__": "(self, net)", "sound": "(self, weigh)", "rows": "(self)", "net": "(self)"}},
    "plans": {"plan": "(net, ask, most)", "is_plan": "(net, ask, thing)", "is_foil": "(net, ask, most, thing)"},
    "books": {"Book": {"__init__": "(self, yard)", "hear": "(self, slip)", "log": "(self)", "waits": "(self)",
                       "lacks": "(self)", "net": "(self)", "__len__": "(self)"}},
    "house": {"House": {"__init__": "(self, yard)", "tell": "(self, beam, left, right, word)", "undo": "(self)",
                        "ask": "(self, question)", "log": "(self)", "record": "(self)"}},
    "judge": {"judged": "(yard, record)", "again": "(yard, record)"},
    "texts": {"yard_text": "(yard)", "read_yard": "(text)", "log_text": "(log)", "read_log": "(yard, text)"},
    "desk": {"Desk": {"__init__": "(self, yard)", "say": "(self, row)"}, "answers": "(yard, text)"},
}
MODULES = {
    "errors": errors, "yards": yards, "rows": rows, "worlds": worlds, "ways": ways, "nets": nets, "torn": torn,
    "stretches": stretches, "sheets": sheets, "words": words, "levels": levels, "parting": parting, "asking": asking,
    "plans": plans, "books": books, "house": house, "judge": judge, "texts": texts, "desk": desk}

BUILTINS = (
    "len range enumerate zip min max sum abs sorted reversed int str bool bytes list tuple dict set isinstance ord "
    "repr any all divmod pow type map iter next super Exception ValueError TypeError KeyError IndexError LookupError "
    "ZeroDivisionError NotImplemented StopIteration property staticmethod classmethod").split()

# what is put into dicts whole, by dict(..) or a star: all of their keys are names (and None), none are tuples
OF_NAMES = [
    "zip(self._yard.things(), weights[1:])", "zip(names_of(self._yard), leans)", "zip(names_of(net.yard()), leans)",
    "weights", "leans", "world[1]", "things", "shift"]


def files():
    return sorted(PACKAGE.glob("*.py"))


def tree_of(path):
    return ast.parse(path.read_text())


def nodes(kind):
    """Each node of a kind in the package, with its file's name."""
    return [(path.name, node) for path in files() for node in ast.walk(tree_of(path)) if isinstance(node, kind)]


class Interface(unittest.TestCase):
    def test_each_stands_in_its_file(self):
        for file, names in INTERFACE.items():
            top = [node for node in tree_of(PACKAGE / (file + ".py")).body
                   if isinstance(node, (ast.FunctionDef, ast.ClassDef))]
            self.assertLessEqual(set(names), {node.name for node in top})

    def test_parameters(self):
        for file, names in INTERFACE.items():
            for name, told in names.items():
                if isinstance(told, str):
                    self.assertEqual(str(inspect.signature(getattr(MODULES[file], name))), told)

    def test_methods_stand_in_their_class(self):
        for file, names in INTERFACE.items():
            for name, told in names.items():
                if isinstance(told, dict):
                    for method, parameters in told.items():
                        defined = vars(getattr(MODULES[file], name))[method]
                        self.assertEqual(str(inspect.signature(defined)), parameters)


class Form(unittest.TestCase):
    def test_plain_files_alone(self):
        found = [path for path in PACKAGE.iterdir() if path.name != "__pycache__"]
        self.assertEqual(sorted(found), files())

    def test_sizes(self):
        for path in files():
            lines = path.read_text().split("\n")
            self.assertLessEqual(len(lines), 399, path.name)
            self.assertLessEqual(max(len(line) for line in lines), 120, path.name)
        for name, node in nodes(ast.FunctionDef):
            self.assertLessEqual(node.end_lineno - node.lineno + 1, 40, (name, node.name))

    def test_signs(self):
        for path in files():
            for sign in path.read_bytes():
                self.assertTrue(sign == 10 or 32 <= sign <= 126, (path.name, sign))
        for name, node in nodes(ast.Constant):
            self.assertNotIn("%", str(node.value), name)

    def test_imports(self):
        library = ["heapq", "math", "itertools", "collections"]
        self.assertEqual(nodes(ast.Import), [])
        for name, node in nodes(ast.ImportFrom):
            self.assertEqual(node.level, 0)
            if node.module not in library:
                package, file = node.module.split(".")
                self.assertEqual(package, "wearybeams")
                defined = {top.name if hasattr(top, "name") else top.targets[0].id
                           for top in tree_of(PACKAGE / (file + ".py")).body
                           if isinstance(top, (ast.FunctionDef, ast.ClassDef, ast.Assign))}
                self.assertLessEqual({alias.name for alias in node.names}, defined, name)

    def test_builtins(self):
        for name, node in nodes(ast.Name):
            if hasattr(builtins, node.id):
                self.assertIn(node.id, BUILTINS, name)
                self.assertIsInstance(node.ctx, ast.Load, name)
        for name, node in nodes(ast.arg):
            self.assertFalse(hasattr(builtins, node.arg), (name, node.arg))

    def test_names_of_imports_and_classes(self):
        for path in files():
            tree = tree_of(path)
            kept = {alias.name for node in ast.walk(tree) if isinstance(node, ast.ImportFrom) for alias in node.names}
            kept |= {node.name for node in tree.body if isinstance(node, ast.ClassDef)}
            bound = {node.arg for node in ast.walk(tree) if isinstance(node, ast.arg)}
            bound |= {node.id for node in ast.walk(tree)
                      if isinstance(node, ast.Name) and isinstance(node.ctx, ast.Store)}
            bound |= {node.name for node in ast.walk(tree) if isinstance(node, ast.FunctionDef)}
            self.assertEqual(kept & bound, set(), path.name)

    def test_no_rings_of_imports(self):
        told = {path.stem: {node.module.split(".")[1] for node in ast.walk(tree_of(path))
                            if isinstance(node, ast.ImportFrom) and node.module.startswith("wearybeams.")}
                for path in files()}
        while told:
            free = [file for file, others in told.items() if not others & set(told)]
            self.assertNotEqual(free, [], told)
            for file in free:
                del told[file]

    def test_dicts_with_tuples_as_keys_are_copied_by_loops(self):
        for name, node in nodes(ast.Attribute):
            self.assertNotIn(node.attr, ["update", "copy"], name)
        for name, node in nodes((ast.BinOp, ast.AugAssign)):
            self.assertNotIsInstance(node.op, ast.BitOr, name)
        for name, node in nodes(ast.Call):
            if isinstance(node.func, ast.Name) and node.func.id == "dict":
                self.assertEqual(node.keywords, [], name)
                self.assertIn(", ".join([ast.unparse(one) for one in node.args]), OF_NAMES, name)
        for name, node in nodes(ast.Dict):
            for key, one in zip(node.keys, node.values):
                self.assertTrue(key is not None or ast.unparse(one) in OF_NAMES, name)

    def test_statements_and_values(self):
        # no generator expressions: any, all and the like want a list where a class has __eq__
        self.assertEqual(nodes((ast.AsyncFunctionDef, ast.GeneratorExp, ast.Div, ast.Set)), [])
        for name, node in nodes(ast.Constant):
            self.assertNotIsInstance(node.value, (float, complex), name)


if __name__ == "__main__":
    unittest.main()
