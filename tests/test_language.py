"""Some of the rules that the package's files keep to, as far as a short look finds them broken."""

import ast
import builtins
import pathlib
import warnings
import unittest

PACKAGE = pathlib.Path(__file__).resolve().parent.parent / "formlens"
FILES = sorted(PACKAGE.glob("*.py"))
BUILTINS = {
    "len", "range", "all", "isinstance", "divmod", "dict", "list", "set", "tuple", "int", "str", "bool", "ValueError",
}


def trees():
    return [(path.name, ast.parse(path.read_text())) for path in FILES]


class TestLanguage(unittest.TestCase):
    def test_folder(self):
        found = sorted(path.name for path in PACKAGE.iterdir() if path.name != "__pycache__")
        self.assertEqual(found, ["__init__.py", "book.py", "errors.py", "steps.py"])

    def test_lines(self):
        for path in FILES:
            text = path.read_text()
            self.assertTrue(all(sign == "\n" or " " <= sign <= "~" for sign in text), path)
            self.assertLess(len(text.splitlines()), 400, path)
            self.assertTrue(all(len(line) <= 120 for line in text.splitlines()), path)

    def test_python_gives_no_warning(self):
        with warnings.catch_warnings():
            warnings.simplefilter("error")
            for path in FILES:
                compile(path.read_text(), str(path), "exec")

    def test_functions_are_small(self):
        for name, tree in trees():
            for node in ast.walk(tree):
                if isinstance(node, ast.FunctionDef):
                    self.assertLessEqual(node.end_lineno - node.lineno + 1, 40, (name, node.name))
                    self.assertEqual(node.decorator_list, [], (name, node.name))

    def test_imports_are_of_the_package_alone(self):
        for name, tree in trees():
            for node in ast.walk(tree):
                self.assertNotIsInstance(node, ast.Import, name)
                if isinstance(node, ast.ImportFrom):
                    self.assertIn((node.level, node.module), [(0, "formlens.errors"), (0, "formlens.steps")], name)

    def test_module_level(self):
        kinds = (ast.ImportFrom, ast.FunctionDef, ast.ClassDef, ast.Assign)
        for name, tree in trees():
            self.assertIsNotNone(ast.get_docstring(tree), name)
            for node in tree.body[1:]:
                self.assertIsInstance(node, kinds, name)
                if isinstance(node, ast.Assign):
                    self.assertIsInstance(node.value, ast.Constant, name)

    def test_no_floats_and_no_other_builtins(self):
        for name, tree in trees():
            for node in ast.walk(tree):
                self.assertNotIsInstance(node, ast.Div, name)
                if isinstance(node, ast.Constant):
                    self.assertNotIsInstance(node.value, float, name)
                if isinstance(node, ast.Name) and hasattr(builtins, node.id):
                    self.assertIn(node.id, BUILTINS, name)
