"""How the package is written, as far as it is soon told: sizes, characters, imports."""

import ast
import os
import unittest

TOP = os.path.dirname(os.path.dirname(os.path.abspath(__file__)))
PACKAGE = os.path.join(TOP, "tillpress")


def files():
    return sorted(name for name in os.listdir(PACKAGE) if name != "__pycache__")


def text_of(name):
    with open(os.path.join(PACKAGE, name), encoding="utf-8", newline="") as file:
        return file.read()


class TestForm(unittest.TestCase):
    def test_the_folder_holds_only_plain_files(self):
        self.assertIn("__init__.py", files())
        for name in files():
            self.assertRegex(name, r"^[a-z0-9_]+\.py$")

    def test_sizes_and_characters(self):
        for name in files():
            rows = text_of(name).split("\n")
            self.assertLess(len(rows), 400, name)
            for row in rows:
                self.assertLessEqual(len(row), 120, name)
                self.assertTrue(all(" " <= sign <= "~" for sign in row), (name, row))

    def test_no_function_is_longer_than_forty_lines(self):
        for name in files():
            for node in ast.walk(ast.parse(text_of(name))):
                if isinstance(node, (ast.FunctionDef, ast.Lambda)):
                    self.assertLessEqual(node.end_lineno - node.lineno + 1, 40, (name, node.lineno))

    def test_imports_are_from_the_package_by_the_names_of_its_files(self):
        for name in files():
            for node in ast.walk(ast.parse(text_of(name))):
                self.assertNotIsInstance(node, ast.Import, name)
                if isinstance(node, ast.ImportFrom):
                    self.assertEqual(node.level, 0, name)
                    package, _, file = node.module.partition(".")
                    self.assertEqual(package, "tillpress", name)
                    self.assertIn(file + ".py", files())

    def test_every_import_is_used(self):
        for name in files():
            tree = ast.parse(text_of(name))
            used = {node.id for node in ast.walk(tree) if isinstance(node, ast.Name)}
            for node in ast.walk(tree):
                if isinstance(node, ast.ImportFrom):
                    for one in node.names:
                        self.assertIn(one.name, used, name)

    def test_no_division_to_a_point_and_no_per_cent_in_texts(self):
        for name in files():
            for node in ast.walk(ast.parse(text_of(name))):
                self.assertNotIsInstance(node, ast.Div, name)
                if isinstance(node, ast.Constant):
                    self.assertNotIsInstance(node.value, float, name)
                    self.assertNotIn("%", str(node.value), name)


if __name__ == "__main__":
    unittest.main()
