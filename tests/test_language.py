"""The rules of the language that can be seen in the files, and where the interface is defined."""

import ast
import builtins
import unittest
from importlib import import_module
from inspect import signature
from pathlib import Path

from helper import ARGUMENTS, INTERFACE

FOLDER = Path(__file__).resolve().parent.parent / "fourtowns"

LIBRARY = ("heapq", "math", "itertools", "collections")

BUILTINS = (
    "len", "range", "enumerate", "zip", "min", "max", "sum", "abs", "sorted", "reversed", "int", "str", "bool",
    "list", "tuple", "dict", "set", "isinstance", "ord", "any", "all", "divmod", "super", "property", "ValueError",
)

UNUSED = (
    ast.AsyncFunctionDef, ast.AsyncFor, ast.AsyncWith, ast.Await, ast.Global, ast.Div, ast.MatMult, ast.TryStar,
)


def sources():
    return [(path, path.read_text(encoding="utf-8")) for path in sorted(FOLDER.glob("*.py"))]


def nodes():
    return [(path.name, node) for path, text in sources() for node in ast.walk(ast.parse(text))]


class FilesTest(unittest.TestCase):
    def test_the_folder_contains_nothing_else(self):
        others = [path.name for path in FOLDER.iterdir() if path.suffix != ".py" and path.name != "__pycache__"]
        self.assertEqual(others, [])
        self.assertTrue((FOLDER / "__init__.py").is_file())

    def test_characters_and_sizes(self):
        for path, text in sources():
            self.assertTrue(all(sign == "\n" or " " <= sign <= "~" for sign in text), path.name)
            self.assertLessEqual(len(text.splitlines()), 399, path.name)
            self.assertLessEqual(max(len(line) for line in text.splitlines()), 120, path.name)

    def test_functions_have_at_most_forty_lines(self):
        for name, node in nodes():
            if isinstance(node, ast.FunctionDef):
                self.assertLessEqual(node.end_lineno - node.lineno + 1, 40, f"{name}: {node.name}")


class WordsTest(unittest.TestCase):
    def test_imports(self):
        for name, node in nodes():
            self.assertNotIsInstance(node, ast.Import, name)
            if isinstance(node, ast.ImportFrom):
                known = node.module in LIBRARY or node.module.startswith("fourtowns.")
                self.assertTrue(known and node.level == 0, f"{name}: {node.module}")

    def test_no_statement_or_sign_outside_the_language(self):
        for name, node in nodes():
            self.assertNotIsInstance(node, UNUSED, name)
            if isinstance(node, ast.Constant):
                self.assertNotIsInstance(node.value, (float, complex), name)

    def test_no_other_builtins(self):
        known = dir(builtins)
        for name, node in nodes():
            if isinstance(node, ast.Name) and node.id in known:
                self.assertIn(node.id, BUILTINS, name)


class InterfaceTest(unittest.TestCase):
    def test_each_name_is_defined_in_its_file(self):
        for module, names in INTERFACE.items():
            tree = ast.parse((FOLDER / f"{module}.py").read_text(encoding="utf-8"))
            defined = [node.name for node in tree.body if isinstance(node, (ast.FunctionDef, ast.ClassDef))]
            for name in names:
                self.assertIn(name, defined)
                self.assertTrue(callable(getattr(import_module(f"fourtowns.{module}"), name)))

    def test_the_names_of_arguments(self):
        for module, names in INTERFACE.items():
            for name in names:
                if module != "errors":
                    function = getattr(import_module(f"fourtowns.{module}"), name)
                    self.assertEqual(list(signature(function).parameters), ARGUMENTS[name], name)


if __name__ == "__main__":
    unittest.main()
