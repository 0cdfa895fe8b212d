"""The interface of DOC.md and the rules of LANGUAGE.md that can be seen in the files."""
import ast
import importlib
import inspect
import unittest
from pathlib import Path

PACKAGE = Path(__file__).resolve().parent.parent / "slantways"
FUNCTIONS = {
    "slantways.way.ways": {
        "is_way": ["slope", "value"], "way_count": ["slope"], "ways": ["slope"], "way_at": ["slope", "index"],
        "way_index": ["way"], "highest": ["slope"], "lowest": ["slope"], "run_count": ["slope", "lengths"],
    },
    "slantways.way.turns": {
        "word_levels": ["slope", "text"], "lowest_places": ["slope", "text"], "turned": ["slope", "text", "number"],
        "way_of": ["slope", "text"], "ways_among": ["slope", "text"], "period": ["slope", "text"],
        "touch_count": ["way"], "words_of": ["way"], "turn_to": ["way", "text"],
    },
}
CLASSES = {
    ("slantways.way.ways", "Slope"): (
        ["rises", "steps"], ["of_text", "exchanged", "__eq__", "__str__"],
        ["rises", "steps", "common", "is_coprime", "half"],
    ),
    ("slantways.way.ways", "Way"): (
        ["slope", "text"], ["exchanged", "__len__", "__iter__", "__lt__", "__eq__", "__str__"],
        ["slope", "text", "levels", "runs"],
    ),
}
LIBRARY = {"math": {"gcd", "lcm", "isqrt", "comb", "perm", "factorial"}}


class InterfaceTest(unittest.TestCase):
    def test_functions(self):
        for module, functions in FUNCTIONS.items():
            for name, parameters in functions.items():
                call = getattr(importlib.import_module(module), name)
                self.assertEqual(call.__module__, module)
                self.assertEqual(list(inspect.signature(call).parameters), parameters)

    def test_classes(self):
        for (module, name), (parameters, methods, properties) in CLASSES.items():
            made = getattr(importlib.import_module(module), name)
            self.assertEqual(made.__module__, module)
            self.assertEqual(list(inspect.signature(made).parameters), parameters)
            for method in methods + properties:
                self.assertIn(method, vars(made), name)
            for word in properties:
                self.assertIsInstance(vars(made)[word], property)

    def test_generator(self):
        self.assertTrue(inspect.isgeneratorfunction(importlib.import_module("slantways.way.ways").ways))


class FilesTest(unittest.TestCase):
    def sources(self):
        return sorted(PACKAGE.rglob("*.py"))

    def test_nothing_else_in_the_package(self):
        others = [path for path in PACKAGE.rglob("*") if path.is_file() and path.suffix != ".py"]
        self.assertEqual([path for path in others if "__pycache__" not in path.parts], [])
        for folder in {path.parent for path in self.sources()}:
            self.assertTrue((folder / "__init__.py").is_file(), folder)

    def test_sizes_and_characters(self):
        for path in self.sources():
            text = path.read_bytes().decode("ascii")
            self.assertLess(len(text.splitlines()), 400, path)
            for line in text.split("\n"):
                self.assertLessEqual(len(line), 120, path)
                self.assertTrue(all(" " <= letter <= "~" for letter in line), path)
            for node in ast.walk(ast.parse(text)):
                if isinstance(node, ast.FunctionDef):
                    self.assertLessEqual(node.end_lineno - node.lineno + 1, 40, node.name)

    def test_imports(self):
        for path in self.sources():
            for node in ast.walk(ast.parse(path.read_text())):
                self.assertNotIsInstance(node, ast.Import, path)
                if isinstance(node, ast.ImportFrom) and not node.module.startswith("slantways."):
                    for name in node.names:
                        self.assertIn(name.name, LIBRARY[node.module], path)


if __name__ == "__main__":
    unittest.main()
