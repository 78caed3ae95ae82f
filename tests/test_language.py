"""What can be checked mechanically of LANGUAGE.md: sizes, characters, imports, names and the places of definitions."""

import ast
import builtins
import inspect
import unittest
from importlib import import_module
from pathlib import Path

ROOT = Path(__file__).resolve().parent.parent / "endonce"

# L8, without those that may stand in __main__.py alone.
BUILTINS = set("""
    len range enumerate zip min max sum abs sorted reversed int str bool bytes list tuple dict set frozenset isinstance ord
    repr any all divmod iter next map object float super property staticmethod classmethod Exception ValueError TypeError
    KeyError IndexError LookupError ZeroDivisionError ArithmeticError OverflowError RuntimeError NotImplementedError
    AttributeError StopIteration NotImplemented
""".split())
LIBRARY = ("heapq", "math", "itertools")
# L17: names that stand nowhere.
BARRED = ("register", "mro", "elements", "open", "input", "law", "version_info", "with_traceback", "add_note")

# Of each file that has landed, its functions and their parameters.
FUNCTIONS = {
    "data": {
        "is_setup": ["thing"], "is_lot": ["setup", "thing"], "is_script": ["setup", "thing"], "chains": ["lot"],
        "tags": ["script"], "is_history": ["setup", "thing"], "script_of": ["history"], "is_closed": ["history"],
    },
    "texts": {
        "setup_text": ["setup"], "script_text": ["script"], "history_text": ["history"], "setup_in": ["text"],
        "script_in": ["setup", "text"], "history_in": ["setup", "text"],
    },
    "sums": {"sums": ["setup", "history"]},
    "nodes": {"nodes": ["setup", "history"]},
    "runs": {
        "run": ["setup", "script", "choices"], "steps_of": ["setup", "script", "choices"], "closed": ["script"],
        "closed_histories": ["setup", "script"], "runs_many": ["setup", "history"],
    },
    "must": {"must": ["setup", "history"]},
    "because": {"because": ["setup", "history", "tag"]},
    "judge": {
        "judge": ["setup", "history"], "order": ["setup", "history"], "before": ["setup", "history", "one", "other"],
        "choices_of": ["setup", "history"],
    },
    "fates": {
        "fates": ["setup", "script", "tag"], "together": ["setup", "script", "wanted"], "standing": ["setup", "script"],
    },
    "orders": {"told_order": ["lot"], "lot_for": ["tags", "pairs"]},
    "desk": {"answers": ["text"]},
}

# Of each class that has landed, its file, its own parameters, and its methods with theirs.
CLASSES = {
    "Ring": ("ring", ["setup"], {
        "put": ["lot"], "reap": ["most"], "clock": ["time"], "give": ["pipe", "text"], "take": ["pipe", "many"], "lend": ["many"],
        "quiet": [], "stop": [], "do": ["event"], "possible": [], "step": ["index"], "history": [], "unended": [], "twin": [],
        "letters": ["pipe"], "turn": ["slot"], "holders": ["slot", "number"], "buffers": [], "outstanding": [],
    }),
    "Session": ("session", ["setup"], {
        "add": ["event", "told"], "add_line": ["line"], "play": ["script", "choices"], "undo": [], "history": [], "closed_part": [],
        "verdict": [], "first_bad": [], "sure": ["one", "other"], "because": ["tag"], "operations": [], "as_of": ["many"], "log": [],
        "__eq__": ["other"], "__len__": [], "__repr__": [],
    }),
}


def files():
    return sorted(path for path in ROOT.rglob("*") if path.is_file() and "__pycache__" not in path.parts)


def nodes(kind):
    """All nodes of this kind, each with the name of its file."""
    for path in files():
        for node in ast.walk(ast.parse(path.read_text())):
            if isinstance(node, kind):
                yield path.name, node


class LanguageTest(unittest.TestCase):
    def test_files(self):
        self.assertTrue((ROOT / "__init__.py").is_file())
        for path in files():
            with self.subTest(file=path.name):
                self.assertEqual(path.suffix, ".py")
                self.assertTrue(path.stem.replace("_", "").isalnum() and path.stem == path.stem.lower())
                self.assertFalse(path.stem in dir(builtins) or path.stem.startswith("test"))

    def test_lines_and_characters(self):
        for path in files():
            lines = path.read_text(encoding="utf-8").split("\n")
            with self.subTest(file=path.name):
                self.assertLessEqual(len(lines) - 1, 399)
                self.assertEqual(lines[-1], "")
                for line in lines:
                    self.assertLessEqual(len(line), 120)
                    self.assertTrue(all(" " <= letter <= "~" for letter in line), line)

    def test_functions_are_short(self):
        for name, node in nodes(ast.FunctionDef):
            with self.subTest(file=name, function=node.name):
                self.assertLessEqual(node.end_lineno - node.lineno + 1, 40)

    def test_imports(self):
        for name, node in nodes((ast.Import, ast.ImportFrom)):
            with self.subTest(file=name, line=node.lineno):
                self.assertIsInstance(node, ast.ImportFrom)
                self.assertEqual(node.level, 0)
                self.assertTrue(node.module.startswith("endonce.") or node.module in LIBRARY)
                for alias in node.names:
                    self.assertNotEqual(alias.name, "*")

    def test_names(self):
        for name, node in nodes(ast.Name):
            with self.subTest(file=name, line=node.lineno, name=node.id):
                self.assertNotIn(node.id, BARRED)
                if hasattr(builtins, node.id):
                    self.assertIn(node.id, BUILTINS)
                    self.assertIsInstance(node.ctx, ast.Load)

    def test_parameters_and_definitions(self):
        for name, node in nodes((ast.arg, ast.FunctionDef, ast.ClassDef)):
            given = node.arg if isinstance(node, ast.arg) else node.name
            with self.subTest(file=name, line=node.lineno, name=given):
                self.assertNotIn(given, BARRED)
                # A method may be called as a builtin is, so functions in classes are let be.
                if node.col_offset == 0 or isinstance(node, ast.arg):
                    self.assertFalse(hasattr(builtins, given))

    def test_values_and_signs(self):
        for name, node in nodes((ast.Constant, ast.Div, ast.Global, ast.AsyncFunctionDef)):
            with self.subTest(file=name, node=ast.dump(node)):
                self.assertIsInstance(node, ast.Constant)
                self.assertNotIsInstance(node.value, (float, complex))
                self.assertFalse(isinstance(node.value, str) and "%" in node.value)

    def test_no_name_of_an_import_or_a_class_means_something_else(self):
        for path in files():
            tree = ast.parse(path.read_text())
            taken = {alias.name for node in ast.walk(tree) if isinstance(node, ast.ImportFrom) for alias in node.names}
            taken |= {node.name for node in tree.body if isinstance(node, (ast.ClassDef, ast.FunctionDef))}
            own = [node.id for node in ast.walk(tree) if isinstance(node, ast.Name) and isinstance(node.ctx, ast.Store)]
            own += [node.arg for node in ast.walk(tree) if isinstance(node, ast.arg)]
            with self.subTest(file=path.name):
                self.assertEqual(sorted(taken.intersection(own)), [])

    def test_no_method_is_also_an_attribute(self):
        methods = {node.name for _, made in nodes(ast.ClassDef) for node in made.body if isinstance(node, ast.FunctionDef)}
        stored = {node.attr for _, node in nodes(ast.Attribute) if isinstance(node.ctx, ast.Store)}
        self.assertEqual(sorted(methods & stored), [])

    def test_no_generator_expressions_where_objects_compare(self):
        self.assertEqual([name for name, _ in nodes(ast.GeneratorExp)], [])

    def test_no_module_imports_one_that_imports_it(self):
        ahead = {path.stem: set() for path in files()}
        for name, node in nodes(ast.ImportFrom):
            if node.module.startswith("endonce."):
                ahead[name[:-3]].add(node.module[len("endonce."):])
        while ahead:
            free = [name for name, needs in ahead.items() if not needs & set(ahead)]
            self.assertTrue(free, ahead)
            for name in free:
                del ahead[name]

    def test_methods_stand_in_the_class_itself(self):
        for name, (file, own, methods) in CLASSES.items():
            made = getattr(import_module("endonce." + file), name)
            self.assertEqual(made.__module__, "endonce." + file)
            self.assertEqual(list(inspect.signature(made).parameters), own)
            for method, parameters in methods.items():
                with self.subTest(name=name, method=method):
                    self.assertIn(method, vars(made))
                    self.assertEqual(list(inspect.signature(vars(made)[method]).parameters), ["self"] + parameters)

    def test_functions_stand_where_the_interface_lists_them(self):
        for name, functions in FUNCTIONS.items():
            module = import_module("endonce." + name)
            for function, parameters in functions.items():
                with self.subTest(file=name, function=function):
                    there = getattr(module, function)
                    self.assertEqual(there.__module__, module.__name__)
                    self.assertEqual(list(inspect.signature(there).parameters), parameters)


if __name__ == "__main__":
    unittest.main()
