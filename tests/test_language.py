"""The rules of the Python subset that can be checked line by line."""

import ast
import os
import unittest

PACKAGE = os.path.join(os.path.dirname(os.path.dirname(os.path.abspath(__file__))), "farreads")
LIBRARY = {"heapq", "math", "itertools", "collections"}


def files():
    found = {}
    for name in sorted(os.listdir(PACKAGE)):
        if name != "__pycache__":
            with open(os.path.join(PACKAGE, name), encoding="utf-8") as file:
                found[name] = file.read()
    return found


class LanguageTest(unittest.TestCase):
    def nodes(self, kinds):
        return [
            (name, node) for name, text in files().items() for node in ast.walk(ast.parse(text)) if isinstance(node, kinds)
        ]

    def test_files(self):
        self.assertIn("__init__.py", files())
        for name in files():
            self.assertRegex(name, r"^[a-z_][a-z0-9_]*\.py$")

    def test_sizes_and_characters(self):
        for name, text in files().items():
            lines = text.split("\n")
            self.assertLessEqual(len(lines), 399, name)
            for number, line in enumerate(lines, 1):
                self.assertLessEqual(len(line), 120, (name, number))
                self.assertTrue(all(" " <= sign <= "~" for sign in line), (name, number))

    def test_functions(self):
        for name, node in self.nodes(ast.FunctionDef):
            self.assertLessEqual(node.end_lineno - node.lineno + 1, 40, (name, node.name))

    def test_imports(self):
        self.assertEqual(self.nodes(ast.Import), [])
        for name, node in self.nodes(ast.ImportFrom):
            self.assertEqual(node.level, 0, name)
            if node.module not in LIBRARY:
                self.assertIn(node.module.replace("farreads.", "") + ".py", files(), name)

    def test_statements_and_signs_that_are_not_used(self):
        kinds = (ast.Global, ast.AsyncFunctionDef, ast.Div, ast.Set, ast.Await)
        self.assertEqual([(name, node.lineno) for name, node in self.nodes(kinds)], [])
        for name, node in self.nodes(ast.Constant):
            self.assertNotIsInstance(node.value, (float, complex), (name, node.lineno))


if __name__ == "__main__":
    unittest.main()
