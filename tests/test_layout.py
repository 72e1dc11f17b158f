"""The interface as it is written in DOC.md, and the sizes and signs of the files."""

import ast
import importlib
import inspect
import pathlib
import string
import unittest

PACKAGE = pathlib.Path(__file__).resolve().parent.parent / "watchednodes"

VALUES = {
    "paths": {"NOWHERE": (0, 0)},
    "nodes": {"MOST_NODES": 60, "MOST_TEXT": 40},
    "watchers": {"KINDS": ("text", "there", "kids")},
    "weak": {"HOUSES": ("ann", "bea", "cyd")},
}
FUNCTIONS = {
    "paths": {
        "is_word": "(thing)", "is_part": "(thing)", "is_path": "(thing)", "is_place": "(thing)",
        "parent_of": "(path)", "last_part": "(path)", "parts_of": "(path)",
    },
    "nodes": {
        "is_plain": "(thing)", "first_nodes": "()", "node_at": "(nodes, path)",
        "kids_of": "(nodes, path)", "done_plain": "(nodes, deed, *, asker)",
    },
    "states": {
        "is_deed": "(thing)", "is_entry": "(thing)", "first_state": "()",
        "done": "(state, entry, *, place)",
    },
    "rows": {
        "is_row": "(thing)", "state_of": "(row)", "told_by": "(row)", "is_beginning": "(one, other)",
        "up_to": "(row, place)", "behind": "(row, place)", "last_place": "(row)",
    },
    "letters": {"is_letter": "(thing)"},
    "houses": {"most_of": "(members)"},
    "watchers": {"is_watcher": "(thing)"},
    "judging": {"first_amiss": "(row, asker, heard, laid)", "are_beginnings": "(rows)"},
    "recipes": {
        "number_of": "(part)", "lock_of": "(kids, part)", "first_of": "(kids)", "head_of_group": "(nodes, path)",
        "barrier_of": "(kids, *, many)",
    },
    "weak": {"losing": "(looks)", "unfenced": "()"},
    "texts": {
        "show_nodes": "(nodes)", "show_entry": "(entry)", "show_row": "(row)", "read_nodes": "(text)",
        "read_entry": "(text)", "read_row": "(text)",
    },
}
# Each method stands in the body of its class itself.
CLASSES = {
    "houses": {"House": {
        "__init__": "(self, name, members, *, looks='all')", "seek": "(self)", "beat": "(self)",
        "take": "(self, letter)", "put": "(self, entry)", "put_once": "(self, entry)",
        "hear_of": "(self, asker)", "begin_anew": "(self)", "called": "(self)", "members": "(self)",
        "role": "(self)", "head": "(self)", "promised": "(self)", "epoch": "(self)", "done": "(self)",
        "clock": "(self)", "row": "(self)", "done_row": "(self)", "synced": "(self)", "state": "(self)",
        "is_settled": "(self)", "twin": "(self)",
    }},
    "watchers": {"Watchers": {
        "__init__": "(self)", "lay": "(self, asker, kind, path)", "let_go": "(self, asker)",
        "meet": "(self, place, events)", "anew": "(self, asker, watchers, told)", "kept": "(self)",
        "twin": "(self)", "__len__": "(self)", "__eq__": "(self, other)",
    }},
    "readers": {"Reader": {
        "__init__": "(self, name, members, *, looks='all')", "house": "(self)", "seek": "(self)", "beat": "(self)",
        "take": "(self, letter)", "hear": "(self, letter)", "begin_anew": "(self)", "watchers": "(self)",
        "waiting": "(self)", "met": "(self)", "state": "(self)", "done": "(self)", "twin": "(self)",
    }},
    "askers": {"Asker": {
        "__init__": "(self, word)", "move": "(self, house)", "ask": "(self, deed)",
        "read": "(self, kind, path, *, watch=False)", "touch": "(self)", "again": "(self)", "hear": "(self, letter)",
        "answers": "(self)", "reads": "(self)", "events": "(self)", "heard": "(self)", "watchers": "(self)",
        "seen": "(self)", "is_busy": "(self)", "called": "(self)", "at": "(self)", "twin": "(self)",
    }},
    "worlds": {"World": {
        "__init__": "(self, members, *, looks='all')", "weave": "(self, rows)", "calm": "(self, rounds)",
        "letters": "(self)", "askers": "(self)", "stopped": "(self)", "members": "(self)", "house": "(self, name)",
        "asker": "(self, word)", "unheard": "(self, word)", "laid": "(self, word)", "twin": "(self)",
        "__len__": "(self)",
    }},
    "recipes": {"Fence": {
        "__init__": "(self)", "write": "(self, number, text)", "text": "(self)", "greatest": "(self)", "__len__": "(self)",
    }},
    "desk": {"Desk": {"__init__": "(self)", "say": "(self, row)"}},
}


def files():
    """The files of the package."""
    return sorted(PACKAGE.rglob("*.py"))


class TestInterface(unittest.TestCase):

    def test_functions(self):
        for module, table in FUNCTIONS.items():
            file = importlib.import_module("watchednodes." + module)
            for name, arguments in table.items():
                with self.subTest(module=module, name=name):
                    function = getattr(file, name)
                    self.assertTrue(inspect.isfunction(function))
                    self.assertEqual(function.__module__, "watchednodes." + module)
                    self.assertEqual(str(inspect.signature(function)), arguments)

    def test_classes(self):
        for module, table in CLASSES.items():
            file = importlib.import_module("watchednodes." + module)
            for name, methods in table.items():
                told = getattr(file, name)
                self.assertEqual((told.__module__, told.__bases__), ("watchednodes." + module, (object,)))
                for method, arguments in methods.items():
                    with self.subTest(name=name, method=method):
                        self.assertEqual(str(inspect.signature(vars(told)[method])), arguments)

    def test_values(self):
        for module, table in VALUES.items():
            file = importlib.import_module("watchednodes." + module)
            for name, value in table.items():
                self.assertEqual(getattr(file, name), value)


class TestFiles(unittest.TestCase):

    def test_the_folder_holds_python_files_alone(self):
        told = [path for path in PACKAGE.rglob("*") if path.is_file() and "__pycache__" not in path.parts]
        self.assertEqual(sorted(told), files())
        self.assertIn(PACKAGE / "__init__.py", files())

    def test_signs_and_sizes(self):
        for path in files():
            with self.subTest(path.name):
                text = path.read_bytes().decode("ascii")
                self.assertTrue(all([sign == "\n" or " " <= sign <= "~" for sign in text]))
                self.assertLess(len(text.splitlines()), 400)
                self.assertLessEqual(max([len(line) for line in text.splitlines()]), 120)

    def test_functions_are_small(self):
        for path in files():
            for part in ast.walk(ast.parse(path.read_text())):
                if isinstance(part, ast.FunctionDef):
                    self.assertLessEqual(part.end_lineno - part.lineno + 1, 40, part.name)

    def test_names_of_classes_begin_with_a_letter(self):
        for path in files():
            for part in ast.walk(ast.parse(path.read_text())):
                if isinstance(part, ast.ClassDef):
                    with self.subTest(path.name, name=part.name):
                        self.assertIn(part.name[0], string.ascii_letters)

    def test_imports_are_the_packages_own(self):
        for path in files():
            for part in ast.walk(ast.parse(path.read_text())):
                self.assertNotIsInstance(part, ast.Import, path.name)
                if isinstance(part, ast.ImportFrom):
                    self.assertTrue(part.module.startswith("watchednodes."), path.name)
                    self.assertEqual(part.level, 0)


if __name__ == "__main__":
    unittest.main()
