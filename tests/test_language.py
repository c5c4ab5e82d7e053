"""What can be seen at a glance of the rules for the package's code (LANGUAGE.md: L1, L2, L6, L8, L10, L14, L15, L25)."""

import ast
import builtins
import os
import unittest

import pageclass

FOLDER = os.path.dirname(pageclass.__file__)
BUILTINS = ("len range enumerate zip min max sum abs sorted reversed int str bool bytes list tuple dict set frozenset "
            "isinstance ord repr any all divmod pow map iter next ValueError TypeError KeyError IndexError "
            "super type getattr hasattr setattr").split()
LIBRARY = (("math", "gcd"), ("itertools", "combinations"), ("heapq", "heapify"), ("heapq", "heappop"),
           ("heapq", "heappush"), ("heapq", "heappushpop"))
METHODS = ("append clear copy count endswith extend find get index insert isalnum isalpha isdigit islower isspace isupper "
           "items join keys ljust lower lstrip partition pop remove replace reverse rfind rjust rpartition rsplit rstrip "
           "setdefault split splitlines startswith strip update upper values zfill bit_length").split()
BARRED = (ast.AsyncFunctionDef, ast.AsyncFor, ast.AsyncWith, ast.Await, ast.Global, ast.Import)


def sources():
    for name in sorted(os.listdir(FOLDER)):
        if name != "__pycache__":
            with open(os.path.join(FOLDER, name), encoding="utf-8") as file:
                yield name, file.read()


class Language(unittest.TestCase):

    def test_the_folder_has_python_files_alone(self):
        for name, _ in sources():
            self.assertRegex(name, r"\A[a-z_]+\.py\Z")

    def test_sizes(self):
        for name, text in sources():
            lines = text.split("\n")
            self.assertLess(len(lines), 400, name)
            self.assertLessEqual(max(len(line) for line in lines), 120, name)
            for node in ast.walk(ast.parse(text)):
                if isinstance(node, ast.FunctionDef):
                    self.assertLessEqual(node.end_lineno - node.lineno + 1, 40, (name, node.name))

    def test_characters(self):
        for name, text in sources():
            self.assertTrue(all(" " <= sign <= "~" or sign == "\n" for sign in text), name)

    def test_imports_come_from_the_package_by_full_names(self):
        for name, text in sources():
            for node in ast.walk(ast.parse(text)):
                if isinstance(node, ast.ImportFrom):
                    if not all((node.module, alias.name) in LIBRARY for alias in node.names):
                        self.assertEqual((node.level, node.module.split(".")[0]), (0, "pageclass"), name)
                    self.assertFalse([alias.name for alias in node.names if alias.asname or alias.name == "*"], name)

    def test_no_barred_statement_and_no_other_builtin(self):
        known = vars(__builtins__) if not isinstance(__builtins__, dict) else __builtins__
        for name, text in sources():
            for node in ast.walk(ast.parse(text)):
                self.assertNotIsInstance(node, BARRED, name)
                if isinstance(node, ast.Name) and node.id in known:
                    self.assertIn(node.id, BUILTINS, name)
                if isinstance(node, ast.Constant):
                    self.assertNotIsInstance(node.value, (float, complex), name)

    def test_methods_of_builtin_values(self):
        """The package's classes have no methods but __init__, so all methods are those of builtin values."""
        for name, text in sources():
            for node in ast.walk(ast.parse(text)):
                if isinstance(node, ast.Call) and isinstance(node.func, ast.Attribute):
                    self.assertIn(node.func.attr, METHODS, (name, node.lineno))
                    self.assertEqual(node.keywords, [], (name, node.lineno))

    def test_lists_and_dicts_of_the_module_level_are_not_passed_on(self):
        for name, text in sources():
            tree = ast.parse(text)
            kept = [node.targets[0].id for node in tree.body if isinstance(node, ast.Assign)
                    and isinstance(node.value, (ast.List, ast.Dict))]
            for node in ast.walk(tree):
                if isinstance(node, ast.Call):
                    passed = [each.id for each in node.args if isinstance(each, ast.Name)]
                    self.assertFalse(set(passed) & set(kept), (name, node.lineno))

    def test_no_name_of_an_import_a_class_or_a_builtin_is_used_again(self):
        for name, text in sources():
            tree = ast.parse(text)
            taken = set(dir(builtins))
            for node in tree.body:
                if isinstance(node, ast.ImportFrom):
                    taken |= {alias.name for alias in node.names}
                elif isinstance(node, ast.ClassDef):
                    taken.add(node.name)
            for node in ast.walk(tree):
                if isinstance(node, ast.FunctionDef) and node.name != "__init__":
                    used = {each.arg for each in ast.walk(node) if isinstance(each, ast.arg)} | {node.name}
                    used |= {each.id for each in ast.walk(node) if isinstance(each, ast.Name)
                             and isinstance(each.ctx, ast.Store)}
                    self.assertFalse(used & taken, (name, node.name))

    def test_every_function_has_a_docstring(self):
        for name, text in sources():
            for node in ast.walk(ast.parse(text)):
                if isinstance(node, ast.FunctionDef) and node.name != "__init__":
                    self.assertTrue(ast.get_docstring(node), (name, node.name))


if __name__ == "__main__":
    unittest.main()
