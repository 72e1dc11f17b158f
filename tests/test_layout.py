"""The interface as it is written in DOC.md, and the sizes and signs of the files."""

import ast
import importlib
import inspect
import pathlib
import unittest

PACKAGE = pathlib.Path(__file__).resolve().parent.parent / "watchednodes"

VALUES = {
    "paths": {"NOWHERE": (0, 0)},
    "nodes": {"MOST_NODES": 60, "MOST_TEXT": 40},
}
FUNCTIONS = {
    "paths": {
        "is_word": "(thing)", "is_part": "(thing)", "is_path": "(thing)", "is_place": "(thing)",
        "parent_of": "(path)", "last_part": "(path)", "parts_of": "(path)",
    },
    "nodes": {
        "is_plain": "(thing)", "first_nodes": "()", "node_at": "(nodes, path)",
        "kids_of": "(nodes, path)", "done_plain": "(nodes, deed, *, asker)",
    },
    "states": {
        "is_deed": "(thing)", "is_entry": "(thing)", "first_state": "()",
        "done": "(state, entry, *, place)",
    },
}


def files():
    """The files of the package."""
    return sorted(PACKAGE.rglob("*.py"))


class TestInterface(unittest.TestCase):

    def test_functions(self):
        for module, table in FUNCTIONS.items():
            file = importlib.import_module("watchednodes." + module)
            for name, arguments in table.items():
                with self.subTest(module=module, name=name):
                    function = getattr(file, name)
                    self.assertTrue(inspect.isfunction(function))
                    self.assertEqual(function.__module__, "watchednodes." + module)
                    self.assertEqual(str(inspect.signature(function)), arguments)

    def test_values(self):
        for module, table in VALUES.items():
            file = importlib.import_module("watchednodes." + module)
            for name, value in table.items():
                self.assertEqual(getattr(file, name), value)


class TestFiles(unittest.TestCase):

    def test_the_folder_holds_python_files_alone(self):
        told = [path for path in PACKAGE.rglob("*") if path.is_file() and "__pycache__" not in path.parts]
        self.assertEqual(sorted(told), files())
        self.assertIn(PACKAGE / "__init__.py", files())

    def test_signs_and_sizes(self):
        for path in files():
            with self.subTest(path.name):
                text = path.read_bytes().decode("ascii")
                self.assertTrue(all([sign == "\n" or " " <= sign <= "~" for sign in text]))
                self.assertLess(len(text.splitlines()), 400)
                self.assertLessEqual(max([len(line) for line in text.splitlines()]), 120)

    def test_functions_are_small(self):
        for path in files():
            for part in ast.walk(ast.parse(path.read_text())):
                if isinstance(part, ast.FunctionDef):
                    self.assertLessEqual(part.end_lineno - part.lineno + 1, 40, part.name)

    def test_imports_are_the_packages_own(self):
        for path in files():
            for part in ast.walk(ast.parse(path.read_text())):
                self.assertNotIsInstance(part, ast.Import, path.name)
                if isinstance(part, ast.ImportFrom):
                    self.assertTrue(part.module.startswith("watchednodes."), path.name)
                    self.assertEqual(part.level, 0)


if __name__ == "__main__":
    unittest.main()
