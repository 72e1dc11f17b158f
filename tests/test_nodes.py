"""Points 5 and 6: nodes and plain deeds."""

import copy
import unittest

from tests.helper import by_names, spoilt, things
from watchednodes.errors import NoDeed
from watchednodes.nodes import (
    MOST_NODES, MOST_TEXT, done_plain, first_nodes, is_plain, kids_of, node_at)

SIGNS = "".join([chr(k) for k in range(32, 127)])

PLAIN = [
    ("make", "/a", "", False, False), ("make", "/a", "x" * 40, True, False),
    ("make", "/a/b", " ~", False, True), ("make", "/a/b/c/d/e", "", True, True),
    ("make", "/a-000001", "", False, False), ("make", "/a-000001/b", "", False, True),
    ("make", "/a/b-999999", "", True, False), ("make", "/abcdefgh", "", True, True),
    ("put", "/", "", None), ("put", "/", "x" * 40, 0), ("put", "/a/b/c/d/e", SIGNS[:40], 7),
    ("put", "/a-000001", SIGNS[40:80], 10 ** 29), ("put", "/a", SIGNS[80:], 1),
    ("drop", "/a", None), ("drop", "/a/b/c/d/e", 0), ("drop", "/a-000001", 12),
    ("see", "/", None), ("see", "/", 0), ("see", "/a/b-000001", 3),
]
NO_PLAIN = [
    ("make", "/", "", False, False), ("make", "/", "", False, True),
    ("make", "/a-000001", "", False, True), ("make", "/a/b-000001", "", True, True),
    ("make", "/a", "", 0, False), ("make", "/a", "", False, 0), ("make", "/a", "", 1, True),
    ("make", "/a", "", True, 1), ("make", "/a", "", None, False), ("make", "/a", "", False, None),
    ("make", "/a", None, False, False), ("make", "/a", "x" * 41, False, False),
    ("make", "/a", "\n", False, False), ("make", "/a", "\x7f", False, False),
    ("make", "/a", "\x1f", False, False), ("make", "/a", "\u00e4", False, False),
    ("make", "/a", b"", False, False), ("make", "a", "", False, False),
    ("make", "/a/", "", False, False), ("make", "/a/b/c/d/e/f", "", False, False),
    ("make", "/A", "", False, False), ("make", "/a", ""), ("make", "/a", "", False),
    ("make", "/a", "", False, False, None), ("make", ("/a",), "", False, False),
    ("put", "/a", "", -1), ("put", "/a", "", True), ("put", "/a", "", False),
    ("put", "/a", "", 1.0), ("put", "/a", "", "0"), ("put", "/a", "x" * 41, None),
    ("put", "/a", "a\nb", None), ("put", "/a", None, None), ("put", "/a", ""),
    ("put", "/a", "", None, None), ("put", "a", "", None), ("put", "", "", None),
    ("put", "/a", [], None), ("put", "/a", "", []),
    ("drop", "/", None), ("drop", "/", 0), ("drop", "/a"), ("drop", "/a", -1),
    ("drop", "/a", True), ("drop", "/a", None, None), ("drop", "a", None), ("drop", "/a", ""),
    ("see", "/a"), ("see", "/", -1), ("see", "/", False), ("see", "", None),
    ("see", "/", None, None), ("see", ["/"], None), ("see", "/", [0]),
    ("all", (("see", "/", None),)), ("open", 5), ("close",), ("bring",),
    ("Make", "/a", "", False, False), ("seen", "/", None), ("", "/", None), (None, "/", None),
    ("see",), ("make",), ("see", "/"), ("gone", "/a", None), ("text", "/a", "", None),
    (["see"], "/", None), ({}, "/", None), (b"see", "/", None), (("see",), "/", None),
]
KINDS = {
    "make": ("other", "other", "text", "truth", "truth"), "put": ("other", "other", "text", "count"),
    "drop": ("other", "other", "count"), "see": ("other", "other", "count"),
}


def no_plain():
    """Things that are no plain deeds."""
    told = NO_PLAIN + things()
    for deed in PLAIN:
        told = told + spoilt(deed, KINDS[deed[0]])
    return told


def small():
    """Nodes with and without children, an owner, a number, counts."""
    return {
        "/": ("root", 2, 5, None), "/lock": ("", 0, 3, None), "/lock/a-000002": ("x", 0, 0, "bob"),
        "/lock/a-000000": ("y", 4, 0, None), "/own": ("z", 1, 0, "amy"), "/b": ("", 0, 9, None),
    }


def full(count):
    """As many nodes as told, among them /n, without children, and /own, of bob's."""
    nodes = {"/": ("", 0, 0, None), "/n": ("", 0, 7, None), "/own": ("", 0, 0, "bob")}
    for k in range(count - 3):
        nodes[f"/x-{k:06d}"] = ("", 0, 0, None)
    return nodes


class TestIsPlain(unittest.TestCase):

    def test_deeds(self):
        for thing in PLAIN:
            self.assertIs(is_plain(thing), True, repr(thing))

    def test_no_deeds(self):
        for thing in no_plain():
            self.assertIs(is_plain(thing), False, repr(thing))

    def test_text_signs(self):
        for k in range(0x200):
            for deed in (("put", "/a", chr(k), None), ("make", "/a", "a" + chr(k), True, True)):
                self.assertIs(is_plain(deed), 32 <= k <= 126)

    def test_text_length(self):
        for count in (0, 1, 39, 40, 41, 42, 6000):
            self.assertIs(is_plain(("put", "/a", "x" * count, 0)), count <= 40)
            self.assertIs(is_plain(("make", "/a", " " * count, False, True)), count <= 40)

    def test_by_name(self):
        self.assertIs(is_plain(thing=("see", "/", None)), True)
        self.assertIs(is_plain(thing={}), False)


class TestNodes(unittest.TestCase):

    def test_numbers(self):
        self.assertEqual((MOST_NODES, MOST_TEXT), (60, 40))

    def test_first_nodes(self):
        self.assertEqual(first_nodes(), {"/": ("", 0, 0, None)})
        self.assertIs(type(first_nodes()["/"]), tuple)

    def test_first_nodes_are_a_new_dict_each_time(self):
        told = first_nodes()
        told["/a"] = ("", 0, 0, None)
        del told["/"]
        self.assertEqual(first_nodes(), {"/": ("", 0, 0, None)})

    def test_node_at(self):
        self.assertEqual(node_at(small(), "/"), ("root", 2, 5, None))
        self.assertEqual(node_at(small(), "/lock/a-000002"), ("x", 0, 0, "bob"))
        for path in ("/c", "/lock/a", "/lock/a-000001", "/own/a", "/a-000002", "/loc"):
            self.assertIsNone(node_at(small(), path))

    def test_kids_of(self):
        self.assertEqual(kids_of(small(), "/"), ["b", "lock", "own"])
        self.assertEqual(kids_of(small(), "/lock"), ["a-000000", "a-000002"])
        self.assertEqual(kids_of(first_nodes(), "/"), [])
        for path in ("/own", "/b", "/lock/a-000000"):
            self.assertEqual(kids_of(small(), path), [])
        for path in ("/c", "/own/a", "/lock/a", "/loc", "/lock/a-000001"):
            self.assertIsNone(kids_of(small(), path))

    def test_kids_are_sorted_and_own(self):
        node = ("", 0, 0, None)
        nodes = {path: node for path in (
            "/", "/a/b/c", "/z", "/a/z", "/ab", "/a", "/a/c-000010", "/a/c-000009", "/a/c", "/ab/x",
            "/a/b", "/a/cc", "/z/a")}
        self.assertEqual(kids_of(nodes, "/"), ["a", "ab", "z"])
        self.assertEqual(kids_of(nodes, "/a"), ["b", "c", "c-000009", "c-000010", "cc", "z"])
        self.assertEqual(kids_of(nodes, "/a/b"), ["c"])
        self.assertEqual(kids_of(nodes, "/ab"), ["x"])

    def test_kids_are_a_new_list_each_time(self):
        nodes = small()
        for path in ("/", "/own"):
            told = kids_of(nodes, path)
            self.assertIs(type(told), list)
            again = list(told)
            told.append("x")
            self.assertEqual(kids_of(nodes, path), again)
        self.assertEqual(nodes, small())

    def test_by_name(self):
        for told in by_names(node_at, nodes=small(), path="/own"):
            self.assertEqual(told, ("z", 1, 0, "amy"))
        for told in by_names(kids_of, nodes=small(), path="/lock"):
            self.assertEqual(told, ["a-000000", "a-000002"])


class TestDonePlain(unittest.TestCase):

    def told(self, nodes, deed, asker="bob"):
        """What is told, once it is sure that it is told as new and the nodes stay."""
        ahead = copy.deepcopy(nodes)
        told = done_plain(nodes, deed, asker=asker)
        self.assertEqual(nodes, ahead)
        self.assertEqual([type(thing) for thing in told], [dict, tuple, list])
        self.assertIsNot(told[0], nodes)
        again = done_plain(nodes, deed, asker=asker)
        self.assertEqual(again, told)
        self.assertIsNot(again[0], told[0])
        self.assertIsNot(again[2], told[2])
        again[0].clear()
        again[2].append("x")
        self.assertEqual(done_plain(nodes, deed, asker=asker), told)
        self.assertEqual(nodes, ahead)
        return told

    def check_ok(self, nodes, deed, value, events, changed, gone=(), asker="bob"):
        after = {path: node for path, node in nodes.items() if path not in gone}
        after.update(changed)
        told = self.told(nodes, deed, asker)
        self.assertEqual(told, (after, ("ok", value), events))
        self.assertTrue(all([type(event) is tuple for event in told[2]]))

    def check_no(self, nodes, deed, word):
        self.assertEqual(self.told(nodes, deed), (nodes, ("no", word), []))

    def test_make(self):
        self.check_ok(
            first_nodes(), ("make", "/a", "text", False, False), "/a", [("made", "/a"), ("kids", "/")],
            {"/a": ("text", 0, 0, None), "/": ("", 0, 1, None)})
        self.check_ok(
            small(), ("make", "/lock/a", "", False, False), "/lock/a",
            [("made", "/lock/a"), ("kids", "/lock")],
            {"/lock/a": ("", 0, 0, None), "/lock": ("", 0, 4, None)})

    def test_make_own(self):
        for asker in ("bob", "amy"):
            self.check_ok(
                small(), ("make", "/a", "x" * 40, True, False), "/a", [("made", "/a"), ("kids", "/")],
                {"/a": ("x" * 40, 0, 0, asker), "/": ("root", 2, 6, None)}, asker=asker)

    def test_make_numbered(self):
        self.check_ok(
            small(), ("make", "/lock/a", "t", False, True), "/lock/a-000003",
            [("made", "/lock/a-000003"), ("kids", "/lock")],
            {"/lock/a-000003": ("t", 0, 0, None), "/lock": ("", 0, 4, None)})
        self.check_ok(
            first_nodes(), ("make", "/a", "", True, True), "/a-000000",
            [("made", "/a-000000"), ("kids", "/")],
            {"/a-000000": ("", 0, 0, "bob"), "/": ("", 0, 1, None)})

    def test_make_with_figures_of_its_own(self):
        self.check_ok(
            small(), ("make", "/lock/a-000001", "", False, False), "/lock/a-000001",
            [("made", "/lock/a-000001"), ("kids", "/lock")],
            {"/lock/a-000001": ("", 0, 0, None), "/lock": ("", 0, 4, None)})

    def test_make_parent(self):
        for deed in (("make", "/c/a", "", False, False), ("make", "/lock/a/b", "", True, True),
                     ("make", "/lock/a-000001/b", "", False, True)):
            self.check_no(small(), deed, "parent")

    def test_make_own_parent(self):
        for deed in (("make", "/own/a", "", False, False), ("make", "/own/a", "", True, True),
                     ("make", "/lock/a-000002/b", "", True, False)):
            self.check_no(small(), deed, "own")

    def test_make_there(self):
        for deed in (("make", "/own", "", False, False), ("make", "/lock", "", True, False),
                     ("make", "/lock/a-000000", "", False, False)):
            self.check_no(small(), deed, "there")
        nodes = small()
        nodes["/lock"] = ("", 0, 2, None)
        self.check_no(nodes, ("make", "/lock/a", "", False, True), "there")
        nodes["/lock/b"] = ("", 0, 0, None)
        self.check_ok(
            nodes, ("make", "/lock/b", "", False, True), "/lock/b-000002",
            [("made", "/lock/b-000002"), ("kids", "/lock")],
            {"/lock/b-000002": ("", 0, 0, None), "/lock": ("", 0, 3, None)})

    def test_make_the_sixtieth_and_the_sixty_first(self):
        for numbered in (False, True):
            path = "/n/a-000007" if numbered else "/n/a"
            deed = ("make", "/n/a", "", False, numbered)
            self.check_ok(
                full(59), deed, path, [("made", path), ("kids", "/n")],
                {path: ("", 0, 0, None), "/n": ("", 0, 8, None)})
            self.check_no(full(60), deed, "full")
            self.check_no(full(61), deed, "full")
        self.assertEqual(len(full(60)), 60)

    def test_make_numbered_above_six_figures(self):
        for made, path in ((999998, "/a-999998"), (999999, "/a-999999")):
            self.check_ok(
                {"/": ("", 0, made, None)}, ("make", "/a", "", False, True), path,
                [("made", path), ("kids", "/")],
                {path: ("", 0, 0, None), "/": ("", 0, made + 1, None)})
        for made in (1000000, 1000001, 10 ** 12):
            nodes = {"/": ("", 0, made, None)}
            self.check_no(nodes, ("make", "/a", "", False, True), "full")
            self.check_ok(
                nodes, ("make", "/a", "", False, False), "/a", [("made", "/a"), ("kids", "/")],
                {"/a": ("", 0, 0, None), "/": ("", 0, made + 1, None)})

    def test_make_tells_the_first_word_that_is_due(self):
        nodes = full(60)
        self.check_no(nodes, ("make", "/c/a", "", False, False), "parent")
        nodes["/own"] = ("", 0, 1000000, "bob")
        self.check_no(nodes, ("make", "/own/a", "", False, True), "own")
        self.check_no(nodes, ("make", "/own/a", "", False, False), "own")
        self.check_no(nodes, ("make", "/n", "", False, False), "there")
        nodes["/n/a-000007"] = ("", 0, 0, None)
        self.check_no(nodes, ("make", "/n/a", "", False, True), "there")
        nodes["/own/a"] = ("", 0, 0, None)
        self.check_no(nodes, ("make", "/own/a", "", False, False), "own")

    def test_put(self):
        for count in (None, 4):
            self.check_ok(
                small(), ("put", "/lock/a-000000", "new", count), 5, [("text", "/lock/a-000000")],
                {"/lock/a-000000": ("new", 5, 0, None)})
        self.check_ok(small(), ("put", "/", "", 2), 3, [("text", "/")], {"/": ("", 3, 5, None)})

    def test_put_keeps_made_and_owner(self):
        self.check_ok(
            small(), ("put", "/own", "x" * 40, 1), 2, [("text", "/own")],
            {"/own": ("x" * 40, 2, 0, "amy")})
        self.check_ok(small(), ("put", "/b", "", None), 1, [("text", "/b")], {"/b": ("", 1, 9, None)})

    def test_put_the_same_text_counts_too(self):
        self.check_ok(
            small(), ("put", "/own", "z", None), 2, [("text", "/own")], {"/own": ("z", 2, 0, "amy")})

    def test_put_no(self):
        for count in (None, 0, 7):
            self.check_no(small(), ("put", "/c", "", count), "lacks")
            self.check_no(small(), ("put", "/lock/a-000001", "", count), "lacks")
        for count in (0, 3, 5):
            self.check_no(small(), ("put", "/lock/a-000000", "", count), "count")
        self.check_no(small(), ("put", "/b", "", 1), "count")

    def test_drop(self):
        for count in (None, 4):
            self.check_ok(
                small(), ("drop", "/lock/a-000000", count), None,
                [("gone", "/lock/a-000000"), ("kids", "/lock")], {}, gone=("/lock/a-000000",))
        self.check_ok(
            small(), ("drop", "/b", 0), None, [("gone", "/b"), ("kids", "/")], {}, gone=("/b",))

    def test_drop_of_another_ones(self):
        self.check_ok(
            small(), ("drop", "/own", 1), None, [("gone", "/own"), ("kids", "/")], {}, gone=("/own",))

    def test_drop_no(self):
        for count in (None, 0, 7):
            self.check_no(small(), ("drop", "/c", count), "lacks")
            self.check_no(small(), ("drop", "/lock/a", count), "lacks")
        for path, count in (("/b", 1), ("/lock/a-000000", 0), ("/own", 0)):
            self.check_no(small(), ("drop", path, count), "count")
        for count in (None, 0):
            self.check_no(small(), ("drop", "/lock", count), "kids")

    def test_drop_tells_the_first_word_that_is_due(self):
        self.check_no(small(), ("drop", "/lock", 1), "count")

    def test_a_name_ahead_of_another_one_is_no_child(self):
        nodes = small()
        nodes["/bb"] = ("", 0, 0, None)
        self.check_ok(
            nodes, ("drop", "/b", None), None, [("gone", "/b"), ("kids", "/")], {}, gone=("/b",))

    def test_see(self):
        for count in (None, 4):
            self.check_ok(small(), ("see", "/lock/a-000000", count), 4, [], {})
        self.check_ok(small(), ("see", "/", None), 2, [], {})
        self.check_ok(small(), ("see", "/lock", 0), 0, [], {})

    def test_see_no(self):
        for count in (None, 0, 7):
            self.check_no(small(), ("see", "/c", count), "lacks")
        for count in (0, 1, 3):
            self.check_no(small(), ("see", "/", count), "count")

    def test_numbers_go_on_behind_a_drop(self):
        nodes = first_nodes()
        for k in range(12):
            nodes, answer, _ = done_plain(nodes, ("make", "/a", "", False, True), asker="bob")
            self.assertEqual(answer, ("ok", f"/a-{k:06d}"))
            nodes, answer, _ = done_plain(nodes, ("drop", answer[1], 0), asker="bob")
            self.assertEqual(answer, ("ok", None))
        self.assertEqual(nodes, {"/": ("", 0, 12, None)})

    def test_no_deed(self):
        for thing in no_plain():
            nodes = small()
            with self.assertRaises(NoDeed):
                done_plain(nodes, thing, asker="bob")
            self.assertEqual(nodes, small())

    def test_the_order_of_the_keys_is_nothing(self):
        turned = dict(reversed(list(small().items())))
        for deed in PLAIN:
            self.assertEqual(
                done_plain(turned, deed, asker="bob"), done_plain(small(), deed, asker="bob"))

    def test_by_name(self):
        deed = ("make", "/lock/a", "t", True, True)
        right = done_plain(small(), deed, asker="amy")
        self.assertEqual(right[0]["/lock/a-000003"], ("t", 0, 0, "amy"))
        for told in by_names(done_plain, nodes=small(), deed=deed, asker="amy"):
            self.assertEqual(told, right)

    def test_asker_by_name_alone(self):
        with self.assertRaises(TypeError):
            done_plain(first_nodes(), ("see", "/", None), "bob")
        with self.assertRaises(TypeError):
            done_plain(first_nodes(), ("see", "/", None))


if __name__ == "__main__":
    unittest.main()
