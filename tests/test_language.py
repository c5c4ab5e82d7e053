"""What can be seen at a glance of the rules for the package's code (LANGUAGE.md: L1, L2, L6, L8, L10, L14)."""

import ast
import os
import unittest

import pageclass

FOLDER = os.path.dirname(pageclass.__file__)
BUILTINS = ("len range enumerate zip min max sum abs sorted reversed int str bool bytes list tuple dict set frozenset "
            "isinstance ord repr any all divmod pow map iter next ValueError TypeError KeyError IndexError "
            "super type getattr hasattr setattr").split()
LIBRARY = (("math", "gcd"), ("itertools", "combinations"), ("heapq", "heapify"), ("heapq", "heappop"),
           ("heapq", "heappush"), ("heapq", "heappushpop"))
BARRED = (ast.AsyncFunctionDef, ast.AsyncFor, ast.AsyncWith, ast.Await, ast.Global, ast.Import)


def sources():
    for name in sorted(os.listdir(FOLDER)):
        if name != "__pycache__":
            with open(os.path.join(FOLDER, name), encoding="utf-8") as file:
                yield name, file.read()


class Language(unittest.TestCase):

    def test_the_folder_has_python_files_alone(self):
        for name, _ in sources():
            self.assertRegex(name, r"\A[a-z_]+\.py\Z")

    def test_sizes(self):
        for name, text in sources():
            lines = text.split("\n")
            self.assertLess(len(lines), 400, name)
            self.assertLessEqual(max(len(line) for line in lines), 120, name)
            for node in ast.walk(ast.parse(text)):
                if isinstance(node, ast.FunctionDef):
                    self.assertLessEqual(node.end_lineno - node.lineno + 1, 40, (name, node.name))

    def test_characters(self):
        for name, text in sources():
            self.assertTrue(all(" " <= sign <= "~" or sign == "\n" for sign in text), name)

    def test_imports_come_from_the_package_by_full_names(self):
        for name, text in sources():
            for node in ast.walk(ast.parse(text)):
                if isinstance(node, ast.ImportFrom):
                    if not all((node.module, alias.name) in LIBRARY for alias in node.names):
                        self.assertEqual((node.level, node.module.split(".")[0]), (0, "pageclass"), name)
                    self.assertFalse([alias.name for alias in node.names if alias.asname or alias.name == "*"], name)

    def test_no_barred_statement_and_no_other_builtin(self):
        known = vars(__builtins__) if not isinstance(__builtins__, dict) else __builtins__
        for name, text in sources():
            for node in ast.walk(ast.parse(text)):
                self.assertNotIsInstance(node, BARRED, name)
                if isinstance(node, ast.Name) and node.id in known:
                    self.assertIn(node.id, BUILTINS, name)
                if isinstance(node, ast.Constant):
                    self.assertNotIsInstance(node.value, (float, complex), name)

    def test_every_function_has_a_docstring(self):
        for name, text in sources():
            for node in ast.walk(ast.parse(text)):
                if isinstance(node, ast.FunctionDef) and node.name != "__init__":
                    self.assertTrue(ast.get_docstring(node), (name, node.name))


if __name__ == "__main__":
    unittest.main()
