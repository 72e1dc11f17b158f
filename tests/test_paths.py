"""Point 4: words, parts, paths, places."""

import unittest

from tests.helper import by_names, spoilt, things
from watchednodes.paths import (
    NOWHERE, is_figures, is_part, is_path, is_place, is_word, last_part, parent_of, parts_of, path_below)

WORDS = ["a", "z", "lock", "abcdefgh", "zzzzzzzz"]
NO_WORDS = ["", "abcdefghi", "A", "Ab", "aB", "a1", "1", "a-", "-a", "a b", " a", "a ", "a\n",
            "a_b", "a/b", "/a", "\u00e4", "\u0430", "\u00aa", "\uff41", "a`", "{"]
NUMBERED = ["a-000000", "lock-000001", "abcdefgh-999999", "z-012345"]
NO_PARTS = ["a-", "a-0", "a-00000", "a-0000000", "-000000", "a--000000", "a-00000a", "a-0000 0",
            "a-000000 ", "a-000000\n", "a-+00000", "a--00000", "a-00000\u0661", "a-00000\u00b2",
            "a-00000\uff11", "a000000", "a_000000", "A-000000", "abcdefghi-000000",
            "a-000000-000000", "a-000000/b", "/a-000000", "a-00000:", "a-00000/"]
PATHS = ["/", "/a", "/abcdefgh", "/a-000000", "/a/b", "/a/a/a", "/a/b/c/d", "/a/b/c/d/e",
         "/a-000000/b-999999/c/d-000001/abcdefgh-123456"]
NO_PATHS = ["", "a", "a/b", "//", "//a", "/a/", "/a//b", "/a/b/", "/a/b/c/d/e/f", "/a/b/c/d/e/",
            "/A", "/a/B", "/a/b/c/d/E", "/a-1", "/a/b-00000", "/-000000", " /a", "/a ", "/ a", "/a\n",
            "\n", "/\n", "/abcdefghi", "/a/abcdefghi", "\\a", "/.", "/..", "/a-000000-000000", "|a"]
PLACES = [(0, 0), (0, 1), (1, 0), (1, 1), (3, 12), (10 ** 29, 10 ** 29)]
NO_PLACES = [(-1, 0), (0, -1), (-1, -1), (True, 0), (0, True), (False, 0), (0, False),
             (False, False), (None, 0), (0, None), (1.0, 0), (0, 1.0), ("0", 0), (0, "0"),
             (), (0,), (0, 0, 0), [0, 0], [1, 1], (0, [0]), ([0], 0), ((0, 0),), ((0, 0), 0),
             {0: 0}, {0, 1}, "00", b"\x00\x00", range(2), (0, {}), ({}, 0)]


class TestTruths(unittest.TestCase):

    def check(self, asked, yes, no):
        for thing in yes:
            self.assertIs(asked(thing), True, repr(thing))
        for thing in no + things():
            self.assertIs(asked(thing), False, repr(thing))

    def test_words(self):
        self.check(is_word, WORDS, NO_WORDS + NUMBERED + NO_PARTS + PATHS)

    def test_every_small_letter_and_no_other_sign_makes_a_word(self):
        letters = [chr(k) for k in range(0x3000) if is_word(chr(k))]
        self.assertEqual("".join(letters), "abcdefghijklmnopqrstuvwxyz")
        for count in range(20):
            self.assertIs(is_word("a" * count), 1 <= count <= 8)

    def test_parts(self):
        self.check(is_part, WORDS + NUMBERED, NO_PARTS + PATHS)

    def test_no_other_sign_is_a_figure(self):
        figures = [chr(k) for k in range(0x3000) if is_part("a-00000" + chr(k))]
        self.assertEqual("".join(figures), "0123456789")
        for count in range(12):
            self.assertIs(is_part("a-" + "1" * count), count == 6)

    def test_figures(self):
        for text in ("0", "7", "0123456789", "000000", "9" * 50):
            self.assertIs(is_figures(text), True)
        for text in ("", " ", "a", "1 ", "-1", "+1", "1.0", "\u0661", "\u00b2", "\uff11", "12x"):
            self.assertIs(is_figures(text), False)

    def test_paths(self):
        self.check(is_path, PATHS, NO_PATHS + WORDS + NUMBERED)

    def test_one_to_five_parts(self):
        for count in range(1, 9):
            self.assertIs(is_path("/a" * count), count <= 5)
            self.assertIs(is_path("/b-000009" * count), count <= 5)

    def test_places(self):
        self.check(is_place, PLACES, NO_PLACES + spoilt((1, 2), ("number", "number")))

    def test_nowhere(self):
        self.assertEqual(NOWHERE, (0, 0))
        self.assertIsInstance(NOWHERE, tuple)
        self.assertIs(is_place(NOWHERE), True)

    def test_by_name(self):
        for asked, thing in ((is_word, "a"), (is_part, "a-000000"), (is_path, "/"), (is_place, (0, 0))):
            self.assertIs(asked(thing=thing), True)
            self.assertIs(asked(thing=[]), False)


class TestPaths(unittest.TestCase):

    def test_parent(self):
        self.assertEqual(parent_of("/a"), "/")
        self.assertEqual(parent_of("/lock-000001"), "/")
        self.assertEqual(parent_of("/a/b"), "/a")
        self.assertEqual(parent_of("/a/b/c/d/e"), "/a/b/c/d")
        self.assertEqual(parent_of("/a/b-000007/c-000008"), "/a/b-000007")

    def test_last_part(self):
        self.assertEqual(last_part("/a"), "a")
        self.assertEqual(last_part("/lock-000001"), "lock-000001")
        self.assertEqual(last_part("/a/b"), "b")
        self.assertEqual(last_part("/a/b/c/d/e"), "e")
        self.assertEqual(last_part("/a/b/c/d/e-000001"), "e-000001")

    def test_parts(self):
        self.assertEqual(parts_of("/"), [])
        self.assertEqual(parts_of("/a"), ["a"])
        self.assertEqual(parts_of("/a/b-000001"), ["a", "b-000001"])
        self.assertEqual(parts_of("/a/b/c/d/e"), ["a", "b", "c", "d", "e"])

    def test_parts_are_a_new_list_each_time(self):
        for path in PATHS:
            told = parts_of(path)
            again = list(told)
            told.append("x")
            self.assertEqual(parts_of(path), again)
            self.assertIsInstance(told, list)

    def test_a_path_is_its_parent_and_its_last_part(self):
        for path in PATHS[1:]:
            above = parent_of(path)
            self.assertTrue(is_path(above))
            self.assertTrue(is_part(last_part(path)))
            self.assertEqual(parts_of(above) + [last_part(path)], parts_of(path))
            self.assertEqual(path_below(above, last_part(path)), path)

    def test_by_name(self):
        self.assertEqual(by_names(parent_of, path="/a/b"), ["/a"])
        self.assertEqual(by_names(last_part, path="/a/b"), ["b"])
        self.assertEqual(by_names(parts_of, path="/a/b"), [["a", "b"]])


if __name__ == "__main__":
    unittest.main()
