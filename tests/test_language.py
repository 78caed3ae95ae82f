"""What can be checked mechanically of LANGUAGE.md: sizes, characters, imports, names and the places of definitions."""

import ast
import builtins
import inspect
import unittest
from importlib import import_module
from pathlib import Path

ROOT = Path(__file__).resolve().parent.parent / "endonce"

# L8, without those that may stand in __main__.py alone.
BUILTINS = set("""
    len range enumerate zip min max sum abs sorted reversed int str bool bytes list tuple dict set frozenset isinstance ord
    repr any all divmod iter next map object float super property staticmethod classmethod Exception ValueError TypeError
    KeyError IndexError LookupError ZeroDivisionError ArithmeticError OverflowError RuntimeError NotImplementedError
    AttributeError StopIteration NotImplemented
""".split())
LIBRARY = ("heapq", "math", "itertools")
# L17: names that stand nowhere.
BARRED = ("register", "mro", "elements", "open", "input", "law", "version_info", "with_traceback", "add_note")

# Of each file that has landed, its functions and their parameters.
FUNCTIONS = {
    "data": {
        "is_setup": ["thing"], "is_lot": ["setup", "thing"], "is_script": ["setup", "thing"], "chains": ["lot"],
        "tags": ["script"], "is_history": ["setup", "thing"], "script_of": ["history"], "is_closed": ["history"],
    },
}


def files():
    return sorted(path for path in ROOT.rglob("*") if path.is_file() and "__pycache__" not in path.parts)


def nodes(kind):
    """All nodes of this kind, each with the name of its file."""
    for path in files():
        for node in ast.walk(ast.parse(path.read_text())):
            if isinstance(node, kind):
                yield path.name, node


class LanguageTest(unittest.TestCase):
    def test_files(self):
        self.assertTrue((ROOT / "__init__.py").is_file())
        for path in files():
            with self.subTest(file=path.name):
                self.assertEqual(path.suffix, ".py")
                self.assertTrue(path.stem.replace("_", "").isalnum() and path.stem == path.stem.lower())
                self.assertFalse(path.stem in dir(builtins) or path.stem.startswith("test"))

    def test_lines_and_characters(self):
        for path in files():
            lines = path.read_text(encoding="utf-8").split("\n")
            with self.subTest(file=path.name):
                self.assertLessEqual(len(lines) - 1, 399)
                self.assertEqual(lines[-1], "")
                for line in lines:
                    self.assertLessEqual(len(line), 120)
                    self.assertTrue(all(" " <= letter <= "~" for letter in line), line)

    def test_functions_are_short(self):
        for name, node in nodes(ast.FunctionDef):
            with self.subTest(file=name, function=node.name):
                self.assertLessEqual(node.end_lineno - node.lineno + 1, 40)

    def test_imports(self):
        for name, node in nodes((ast.Import, ast.ImportFrom)):
            with self.subTest(file=name, line=node.lineno):
                self.assertIsInstance(node, ast.ImportFrom)
                self.assertEqual(node.level, 0)
                self.assertTrue(node.module.startswith("endonce.") or node.module in LIBRARY)
                for alias in node.names:
                    self.assertNotEqual(alias.name, "*")

    def test_names(self):
        for name, node in nodes(ast.Name):
            with self.subTest(file=name, line=node.lineno, name=node.id):
                self.assertNotIn(node.id, BARRED)
                if hasattr(builtins, node.id):
                    self.assertIn(node.id, BUILTINS)
                    self.assertIsInstance(node.ctx, ast.Load)

    def test_parameters_and_definitions(self):
        for name, node in nodes((ast.arg, ast.FunctionDef, ast.ClassDef)):
            given = node.arg if isinstance(node, ast.arg) else node.name
            with self.subTest(file=name, line=node.lineno, name=given):
                self.assertNotIn(given, BARRED)
                # A method may be called as a builtin is, so functions in classes are let be.
                if node.col_offset == 0 or isinstance(node, ast.arg):
                    self.assertFalse(hasattr(builtins, given))

    def test_values_and_signs(self):
        for name, node in nodes((ast.Constant, ast.Div, ast.Global, ast.AsyncFunctionDef)):
            with self.subTest(file=name, node=ast.dump(node)):
                self.assertIsInstance(node, ast.Constant)
                self.assertNotIsInstance(node.value, (float, complex))
                self.assertFalse(isinstance(node.value, str) and "%" in node.value)

    def test_functions_stand_where_the_interface_lists_them(self):
        for name, functions in FUNCTIONS.items():
            module = import_module("endonce." + name)
            for function, parameters in functions.items():
                with self.subTest(file=name, function=function):
                    there = getattr(module, function)
                    self.assertEqual(there.__module__, module.__name__)
                    self.assertEqual(list(inspect.signature(there).parameters), parameters)


if __name__ == "__main__":
    unittest.main()
