"""Point 24: nodes, entries and rows written as texts, and read; of point 3 (k)."""

import copy
import unittest

from tests.helper import Reckoned, by_names, things
from tests.test_paths import NO_PATHS, NO_WORDS, PATHS, WORDS
from tests.test_states import DEEDS, ENTRIES
from tests.woven import ask
from watchednodes.errors import NoText
from watchednodes.nodes import MOST_NODES, MOST_TEXT, first_nodes
from watchednodes.rows import is_row
from watchednodes.texts import read_entry, read_nodes, read_row, show_entry, show_nodes, show_row

BIG = 10 ** 29 + 7
TEXTS = ["", " ", "  ", "a", " a", "a ", " a b  ", "[x]", "0", "12", "3 abc", "-", "yes", "~" * MOST_TEXT, " " * MOST_TEXT,
         "end bob", "1.1", "\\n", "a;b", "; ", ".", "bob.1 bring", "%", "\"'", "{}", "0 "]
NODES = {
    "/": ("", 0, 2, None), "/a": ("t u", 3, 1, None), "/a/b-000012": ("", 0, 0, "bob"), "/a-000000": (" x ", 10, 0, None),
    "/b": ("-", BIG, BIG, None)}
SHOWN = ("/ 0 2 - 0 \n/a 3 1 - 3 t u\n/a-000000 10 0 - 3  x \n/a/b-000012 0 0 bob 0 \n"
         f"/b {BIG} {BIG} - 1 -")
NO_NUMBERS = ["", "00", "01", "007", "-1", "+1", "1.0", "1e3", "0x1", "a", "1a", "1_0", "\u0661", "\u00b2", "\uff11", "yes",
              "None", "1\t", "9" * 4301, "9" * 5900]
# Shown entries, and what they are.
PAIRS = [
    ("bob.1 open 10", ask(1, deed=("open", 10))), ("bob.12 open 1000", ask(12, deed=("open", 1000))),
    ("amy.2 close", ask(2, "amy", ("close",))), (f"end.{BIG} bring", ask(BIG, "end")), ("end bob", ("end", "bob")),
    ("end end", ("end", "end")), ("bob.3 drop /a -", ask(3, deed=("drop", "/a", None))),
    ("bob.3 drop /a/b-000001 0", ask(3, deed=("drop", "/a/b-000001", 0))), ("bob.4 see / 7", ask(4, deed=("see", "/", 7))),
    ("bob.4 see / -", ask(4, deed=("see", "/", None))), ("bob.5 put /a - 0 ", ask(5, deed=("put", "/a", "", None))),
    ("bob.5 put /a 0 1  ", ask(5, deed=("put", "/a", " ", 0))), ("bob.5 put / 12 5 a b c", ask(5, deed=("put", "/", "a b c", 12))),
    ("bob.6 make /a no no 0 ", ask(6, deed=("make", "/a", "", False, False))),
    ("bob.6 make /a yes no 1 x", ask(6, deed=("make", "/a", "x", True, False))),
    ("bob.6 make /a no yes 3 [ ]", ask(6, deed=("make", "/a", "[ ]", False, True))),
    ("bob.6 make /a-000000 yes no 2 12", ask(6, deed=("make", "/a-000000", "12", True, False))),
    ("bob.7 all 1 see / -", ask(7, deed=("all", (("see", "/", None),)))),
    ("bob.7 all 3 put /a - 0  put /b 1 1   see /c 0",
     ask(7, deed=("all", (("put", "/a", "", None), ("put", "/b", " ", 1), ("see", "/c", 0))))),
    ("bob.7 all 2 make /a no no 3 a b make /b yes yes 0 ",
     ask(7, deed=("all", (("make", "/a", "a b", False, False), ("make", "/b", "", True, True)))))]
NO_ENTRY_ROWS = [
    "", " ", "bob", "bob.1", "bob.1 ", "bob.1  bring", " bob.1 bring", "bob.1 bring ", "bob.1 bring x", "bob.1 Bring", "bob.0 bring",
    "bob.01 bring", "bob. bring", "bob 1 bring", ".1 bring", "bob.1.1 bring", "Bob.1 bring", "abcdefghi.1 bring", "bob.-1 bring",
    "bob.1 open", "bob.1 open ", "bob.1 open 0", "bob.1 open 1001", "bob.1 open 010", "bob.1 open 5 5", "bob.1 open -", "bob.1 open yes",
    "bob.1 close 1", "bob.1 sing /a", "bob.1 sing /a -", "bob.1 end bob", "end", "end ", "end bob ", "end  bob", "end bob x", "end Bob",
    "end.1", "end. bob", "end.1 bob", "End bob", "end bob.1", "end 1", "end -",
    "bob.1 drop /a", "bob.1 drop /a ", "bob.1 drop / -", "bob.1 drop a -", "bob.1 drop /a 01", "bob.1 drop /a - -", "bob.1 drop /a None",
    "bob.1 drop  /a -", "bob.1 drop /a  -", "bob.1 see /A -", "bob.1 see / yes", "bob.1 see /a- 1", "bob.1 see / -1",
    "bob.1 put /a -", "bob.1 put /a - ", "bob.1 put /a - 0", "bob.1 put /a - 0  ", "bob.1 put /a - 1 ", "bob.1 put /a - 1 ab", "bob.1 put /a - 3 ab",
    "bob.1 put /a - 2  ab", "bob.1 put /a - 02 ab", "bob.1 put /a - 2 ab ", "bob.1 put /a - 2 ab c", "bob.1 put /a - x ab", "bob.1 put /a 2 ab",
    "bob.1 put /a - -1 ", "bob.1 put /a yes 0 ", "bob.1 put /a - 41 " + "a" * 41, "bob.1 put /a - 99999999999999999999 a", "bob.1 put /a 0 - 0 ",
    "bob.1 put /a - 1 \u00e4", "bob.1 put /a - 1 \t", "bob.1 put /a - 1 \x7f", "bob.1 put /a - - ",
    "bob.1 make /a no no", "bob.1 make /a no no 0", "bob.1 make /a no 0 ", "bob.1 make / no no 0 ", "bob.1 make /a-000000 no yes 0 ",
    "bob.1 make /a 0 1 0 ", "bob.1 make /a No no 0 ", "bob.1 make /a no - 0 ", "bob.1 make /a True False 0 ", "bob.1 make /a yesno no 0 ",
    "bob.1 make /a  no 0 ", "bob.1 make no no 0 ", "bob.1 make /a no no 0  x", "bob.1 make /a/b/c/d/e/f no no 0 ",
    "bob.1 all", "bob.1 all ", "bob.1 all 0", "bob.1 all 0 ", "bob.1 all 1", "bob.1 all 2 see / -", "bob.1 all 1 see / - see / -",
    "bob.1 all 7" + " see / -" * 7, "bob.1 all 01 see / -", "bob.1 all 1 close", "bob.1 all 1 bring", "bob.1 all 1 open 5",
    "bob.1 all 1 all 1 see / -", "bob.1 all 2 see / -  see / -", "bob.1 all 1 see / - ", "bob.1 all see / -", "bob.1 all 99999999999999999999 see / -",
    "bob.1 all 2 put /a - 0 see / -", "bob.1 all 2 put /a - 2 absee / -", "bob.1 all 2 put /a - 1 axsee / -",
    "bob.1 all 2 make /a no no 0 .see / -", "bob.1 all - see / -", "bob.1 see / -\r", "bob.1\tbring", "-", "0"]
NO_NODE_ROWS = [
    "", " ", "/a", "/a 0", "/a 0 0", "/a 0 0 -", "/a 0 0 - ", "/a 0 0 - 0", " /a 0 0 - 0 ", "/a  0 0 - 0 ", "/a 0  0 - 0 ", "/a 0 0  - 0 ",
    "/a 0 0 -  0 ", "/a 0 0 - 0  ", "/a 0 0 - 0 x", "/a 0 0 - 1 ", "/a 0 0 - 1 xy", "/a 0 0 - 1 x ", "/a 0 0 - 3 xy", "/a 0 0 - 2  xy",
    "/a 00 0 - 0 ", "/a 0 00 - 0 ", "/a 01 0 - 0 ", "/a -1 0 - 0 ", "/a 0 -1 - 0 ", "/a - 0 - 0 ", "/a 0 - - 0 ", "/a yes 0 - 0 ",
    "/a 0 0 Bob 0 ", "/a 0 0 abcdefghi 0 ", "/a 0 0 None 0 ", "/a 0 0 bob-000001 0 ", "/a 0 0 0 ", "/a 0 0 bob bob 0 ", "/a 0 0 - 01 x",
    "/a 0 0 - -1 ", "/a 0 0 - - ", "/a 0 0 - 41 " + "x" * 41, "/a 0 0 - 999999999999 x", "a 0 0 - 0 ", "/A 0 0 - 0 ", "/a/ 0 0 - 0 ",
    "/a/b/c/d/e/f 0 0 - 0 ", "/a- 0 0 - 0 ", "/a 0 0 - 1 \u00e4", "/a 0 0 - 1 \t", "/a 0 0 - 0 \r", "/a 1.0 0 - 0 ", "/a 0 1. - 0 ", "bob.1 bring",
    "1.1 bob.1 bring", "//a 0 0 - 0 ", "/a\t0 0 - 0 ", "-"]


class Written(unittest.TestCase):

    def refused(self, read, text, where):
        with self.assertRaises(NoText, msg=repr(text)) as caught:
            read(text)
        self.assertEqual(caught.exception.where, where, repr(text))
        self.assertIs(type(caught.exception.where), type(where))


class TestNodes(Written):

    def test_shown(self):
        ahead = copy.deepcopy(NODES)
        self.assertEqual(show_nodes(NODES), SHOWN)
        self.assertEqual(show_nodes(dict(list(NODES.items())[::-1])), SHOWN)
        self.assertEqual(NODES, ahead)
        self.assertEqual(show_nodes(first_nodes()), "/ 0 0 - 0 ")
        self.assertEqual(show_nodes({"/": ("a b", 1, 0, "amy")}), "/ 1 0 amy 3 a b")
        self.assertEqual(show_nodes({}), "")

    def test_read(self):
        self.assertEqual(read_nodes(SHOWN), NODES)
        self.assertIs(type(read_nodes(SHOWN)), dict)
        self.assertEqual(read_nodes("/ 0 0 - 0 "), first_nodes())
        read_nodes(SHOWN).clear()
        self.assertEqual(read_nodes(SHOWN), NODES)

    def check(self, nodes):
        shown = show_nodes(nodes)
        self.assertEqual(read_nodes(shown), nodes)
        self.assertEqual(show_nodes(read_nodes(shown)), shown)

    def test_what_is_written_is_read(self):
        for text in TEXTS:
            for count in (0, 1, 10, BIG):
                for owner in [None] + WORDS:
                    self.check({"/": (text, count, 7, owner), "/a": (text, 0, count, owner)})
        for path in PATHS:
            nodes = first_nodes()
            parts = path.split("/")[1:] if path != "/" else []
            for k in range(len(parts)):
                nodes["/" + "/".join(parts[:k + 1])] = ("x y", k, 0, None)
            self.check(nodes)

    def test_sixty_nodes(self):
        nodes = {"/": ("", 0, 0, None)}
        for k in range(MOST_NODES - 1):
            nodes[f"/a-{k:06d}"] = (str(k), k, 0, None)
        self.check(nodes)
        nodes["/b"] = ("", 0, 0, None)
        self.refused(read_nodes, show_nodes(nodes), None)

    def test_a_row_that_is_none_by_itself(self):
        good = SHOWN.split("\n")
        for bad in NO_NODE_ROWS:
            self.refused(read_nodes, "\n".join([bad] + good), 0)
            self.refused(read_nodes, "\n".join(good + [bad]), 5)
            self.refused(read_nodes, "\n".join(good[:2] + [bad] + good[2:]), 2)
            self.refused(read_nodes, "\n".join(good[:2] + [bad, "x", bad]), 2)
            # Also where what stands ahead isn't what is to be read.
            self.refused(read_nodes, "\n".join([good[3], good[3], bad]), 2)
            if bad != "":
                self.refused(read_nodes, bad, 0)

    def test_paths_numbers_and_owners(self):
        for path in NO_PATHS:
            if " " not in path and "\n" not in path:
                self.refused(read_nodes, f"/ 0 0 - 0 \n{path} 0 0 - 0 ", 1)
        for number in NO_NUMBERS:
            self.refused(read_nodes, f"/ {number} 0 - 0 ", 0)
            self.refused(read_nodes, f"/ 0 {number} - 0 ", 0)
            self.refused(read_nodes, f"/ 0 0 - {number} x", 0)
        for word in NO_WORDS:
            if "\n" not in word and word not in ("-",):
                self.refused(read_nodes, f"/ 0 0 {word} 0 ", 0)

    def test_no_nodes_though_each_row_is_good(self):
        root, a, ab, b = "/ 0 0 - 0 ", "/a 0 0 - 0 ", "/a/b 0 0 - 0 ", "/b 0 0 - 0 "
        read_nodes("\n".join([root, a, ab, b]))
        for rows in ([a], [a, ab], [root, ab], [root, ab, b], [root, a, "/a/b/c 0 0 - 0 "], [a, root], [root, b, a], [root, ab, a],
                     [root, a, b, ab], [root, root], [root, a, a], [root, a, "/a 1 0 - 0 "], [root, a, root]):
            self.refused(read_nodes, "\n".join(rows), None)

    def test_no_signs_and_line_feeds(self):
        self.refused(read_nodes, "", None)
        self.refused(read_nodes, "\n", 0)
        self.refused(read_nodes, "/ 0 0 - 0 \n", 1)
        self.refused(read_nodes, "\n/ 0 0 - 0 ", 0)
        self.refused(read_nodes, "/ 0 0 - 0 \n\n/a 0 0 - 0 ", 1)


class TestEntries(Written):

    def test_shown_and_read(self):
        for text, entry in PAIRS:
            self.assertEqual(show_entry(entry), text)
            self.assertEqual(read_entry(text), entry)
            self.assertIs(type(read_entry(text)), tuple)

    def test_what_is_written_is_read(self):
        entries = ENTRIES + [ask(k + 1, word, deed) for k, deed in enumerate(DEEDS) for word in WORDS]
        for text in TEXTS:
            for count in (None, 0, 12, BIG):
                plain = (("put", "/a", text, count), ("make", "/b", text, True, count is None), ("see", "/", count))
                entries.extend([ask(3, deed=deed) for deed in plain] + [ask(3, deed=("all", plain * 2))])
        for entry in entries:
            ahead = copy.deepcopy(entry)
            shown = show_entry(entry)
            self.assertEqual(repr(read_entry(shown)), repr(entry))
            self.assertEqual(show_entry(read_entry(shown)), shown)
            self.assertEqual(entry, ahead)
            self.assertNotIn("\n", shown)

    def test_no_entry(self):
        for bad in NO_ENTRY_ROWS:
            self.refused(read_entry, bad, 0)
            for more in ("", "bob.1 bring", "x", "\n"):
                self.refused(read_entry, bad + "\n" + more, 0)

    def test_a_second_row(self):
        for text, _ in PAIRS:
            for more in ("", " ", "bob.1 bring", text, "x", "\n", "\nx", "1.1 bob.1 bring"):
                self.refused(read_entry, text + "\n" + more, 1)

    def test_words_numbers_and_paths(self):
        for word in NO_WORDS:
            if "\n" not in word:
                self.refused(read_entry, f"{word}.1 bring", 0)
                self.refused(read_entry, f"end {word}", 0)
        for number in NO_NUMBERS:
            for text in ("bob.{} bring", "bob.1 open {}", "bob.1 see / {}", "bob.1 put / - {} x", "bob.1 all {} see / -", "bob.1 put / {} 0 "):
                self.refused(read_entry, text.format(number), 0)
        for path in NO_PATHS:
            if "\n" not in path:
                self.refused(read_entry, f"bob.1 see {path} -", 0)
                self.refused(read_entry, f"bob.1 make {path} no no 0 ", 0)

    def test_one_sign_more_or_less(self):
        for text, entry in PAIRS:
            for k in range(len(text) + 1):
                for other in (text[:k] + " " + text[k:], text[:k] + "0" + text[k:], text[:k] + text[k + 1:], text[:k] + "." + text[k:],
                              text[:k]):
                    # What is read all the same is written so, and not otherwise.
                    try:
                        found = read_entry(other)
                    except NoText as error:
                        self.assertEqual(error.where, 0)
                    else:
                        self.assertEqual(show_entry(found), other)


class TestRows(Written):

    ROW = [((1, 1), PAIRS[0][1]), ((1, 2), PAIRS[10][1]), ((1, 3), ("end", "bob")), ((3, 1), PAIRS[18][1]), ((BIG, 1), PAIRS[2][1])]
    SHOWN = ["1.1 bob.1 open 10", "1.2 bob.5 put /a - 0 ", "1.3 end bob", "3.1 bob.7 all 3 put /a - 0  put /b 1 1   see /c 0",
             f"{BIG}.1 amy.2 close"]

    def test_shown_and_read(self):
        self.assertTrue(is_row(self.ROW))
        for many in range(6):
            row, text = self.ROW[:many], "\n".join(self.SHOWN[:many])
            self.assertEqual(show_row(row), text)
            self.assertEqual(read_row(text), row)
            self.assertIs(type(read_row(text)), list)
        self.assertEqual((show_row([]), read_row("")), ("", []))
        read_row("").append("x")
        self.assertEqual(read_row(""), [])

    def test_what_is_written_is_read(self):
        for epoch in (1, 9, 10, BIG):
            row = [((epoch, k + 1), entry) for k, entry in enumerate(ENTRIES)]
            ahead = copy.deepcopy(row)
            shown = show_row(row)
            self.assertEqual(repr(read_row(shown)), repr(row))
            self.assertEqual(show_row(read_row(shown)), shown)
            self.assertEqual(row, ahead)

    def test_a_row_that_is_none_by_itself(self):
        bads = ["1.1 " + bad for bad in NO_ENTRY_ROWS] + [
            "", " ", "1.1", "1.1 ", "1 bob.1 bring", "1. bob.1 bring", ".1 bob.1 bring", "1.1.1 bob.1 bring", "01.1 bob.1 bring",
            "1.01 bob.1 bring", "1,1 bob.1 bring", "1.1  bob.1 bring", " 1.1 bob.1 bring", "-1.1 bob.1 bring", "1.-1 bob.1 bring", "a.b bob.1 bring",
            "1.1 1.1 bob.1 bring", "bob.1 bring", "1.x end bob", "- bob.1 bring", "1.1\tbob.1 bring", "(1, 1) bob.1 bring", "/ 0 0 - 0 "]
        bads.extend([f"{number}.1 end bob" for number in NO_NUMBERS if "." not in number])
        bads.extend([f"1.{number} end bob" for number in NO_NUMBERS])
        for bad in bads:
            self.refused(read_row, "\n".join([bad] + self.SHOWN), 0)
            self.refused(read_row, "\n".join(self.SHOWN + [bad]), 5)
            self.refused(read_row, "\n".join(self.SHOWN[:2] + [bad, "x", bad]), 2)
            self.refused(read_row, "\n".join([self.SHOWN[1], self.SHOWN[1], bad]), 2)
            if bad != "":
                self.refused(read_row, bad, 0)

    def test_places_that_dont_stand(self):
        for places in (["0.0"], ["0.1"], ["1.0"], ["1.2"], ["1.1", "1.1"], ["1.1", "1.3"], ["1.1", "2.2"], ["2.1", "1.1"], ["2.1", "1.2"],
                       ["1.1", "2.0"], ["1.1", "0.2"], ["1.1", "1.2", "1.2"], ["1.1", "1.2", "2.1", "2.3"], ["0.0", "1.1"], ["0.0", "0.1"],
                       ["1.0", "1.1"], ["2.1", "2.2", "1.1"]):
            self.refused(read_row, "\n".join([place + " end bob" for place in places]), None)
        self.assertEqual(len(read_row("1.1 end bob\n1.2 end bob\n5.1 end bob")), 3)

    def test_no_signs_and_line_feeds(self):
        self.refused(read_row, "\n", 0)
        self.refused(read_row, "1.1 end bob\n", 1)
        self.refused(read_row, "\n1.1 end bob", 0)
        self.refused(read_row, "1.1 end bob\n\n1.2 end bob", 1)


class TestAnything(Written):

    def test_no_text(self):
        for read in (read_nodes, read_entry, read_row):
            for thing in [b"", b"1.1 end bob", ["1.1 end bob"], ("end bob",), {"/": 1}, NODES, PAIRS[0][1]] + things():
                if not isinstance(thing, str):
                    self.refused(read, thing, 0)
            for thing in things():
                if isinstance(thing, str) and thing != "":
                    self.refused(read, thing, 0)

    def test_by_names(self):
        self.assertEqual(by_names(show_nodes, nodes=NODES), [SHOWN])
        self.assertEqual(by_names(read_nodes, text=SHOWN), [NODES])
        self.assertEqual(by_names(show_entry, entry=PAIRS[0][1]), [PAIRS[0][0]])
        self.assertEqual(by_names(read_entry, text=PAIRS[0][0]), [PAIRS[0][1]])
        row = [((1, 1), PAIRS[0][1])]
        self.assertEqual(by_names(show_row, row=row), ["1.1 " + PAIRS[0][0]])
        self.assertEqual(by_names(read_row, text="1.1 " + PAIRS[0][0]), [row])

    def test_by_a_reckoning(self):
        """What is read is written alike, whatever signs a text has."""
        signs = list("  0123.-/abe\n") + ["bob", "all", "put", "see", "end", " 1 ", "no", "yes", "/a", "1.1 ", "bob.1 "]
        reckoned, many = Reckoned(5), 0
        for _ in range(4000):
            text = "".join([reckoned.one_of(signs) for _ in range(reckoned.below(12))])
            for read, show in ((read_nodes, show_nodes), (read_entry, show_entry), (read_row, show_row)):
                try:
                    found = read(text)
                except NoText as error:
                    self.assertTrue(error.where is None or 0 <= error.where <= text.count("\n"))
                else:
                    self.assertEqual(show(found), text)
                    many += 1
        self.assertGreater(many, 0)


if __name__ == "__main__":
    unittest.main()
