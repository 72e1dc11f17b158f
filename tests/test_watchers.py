"""Point 17: watchers."""

import itertools
import unittest

from tests.helper import Stranger, Unlike, by_names, spoilt, things
from tests.test_paths import NO_PATHS, NO_WORDS, PATHS, WORDS
from tests.woven import ask
from watchednodes.rows import behind, told_by
from watchednodes.watchers import KINDS, Watchers, is_laid_by, is_met, is_watcher, value_of

MET_BY = {"text": ("text", "gone"), "there": ("made", "text", "gone"), "kids": ("kids", "gone")}
HERE = (3, 4)


def laid(*watchers):
    """Watchers that keep these."""
    kept = Watchers()
    for watcher in watchers:
        kept.lay(*watcher)
    return kept


class TestIsWatcher(unittest.TestCase):

    def test_kinds(self):
        self.assertEqual(KINDS, ("text", "there", "kids"))
        self.assertIs(type(KINDS), tuple)

    def test_watchers(self):
        for asker, kind, path in itertools.product(WORDS, KINDS, PATHS):
            self.assertIs(is_watcher((asker, kind, path)), True)

    def test_no_watchers(self):
        for thing in things() + spoilt(("bob", "text", "/a"), ("other",) * 3):
            self.assertIs(is_watcher(thing), False, repr(thing))
        for asker in NO_WORDS + ["bob-000001", ("bob",), ["bob"]]:
            self.assertIs(is_watcher((asker, "text", "/a")), False, repr(asker))
        for kind in ("", "Text", "texts", "made", "gone", "tex", "texttherekids", KINDS, ("text",), ["text"], {"text"},
                     0, b"text"):
            self.assertIs(is_watcher(("bob", kind, "/a")), False, repr(kind))
        for path in NO_PATHS + [("/",), ["/"]]:
            self.assertIs(is_watcher(("bob", "text", path)), False, repr(path))
        for thing in ("bob", ("bob", "text"), ("text", "/a"), ("bob", "/a", "text"), ("text", "bob", "/a"),
                      ("bob", "text", "/a", (0, 0)), ["bob", "text", "/a"], {"bob", "text", "/a"}):
            self.assertIs(is_watcher(thing), False, repr(thing))


class TestReads(unittest.TestCase):

    def test_values(self):
        nodes = {"/": ("r", 2, 3, None), "/b": ("t", 0, 1, None), "/a": ("", 1, 0, "bob"), "/b/c": ("x", 4, 0, None)}
        self.assertEqual([value_of(nodes, kind, "/") for kind in KINDS], [("r", 2), True, ("a", "b")])
        self.assertEqual([value_of(nodes, kind, "/a") for kind in KINDS], [("", 1), True, ()])
        self.assertEqual([value_of(nodes, kind, "/b") for kind in KINDS], [("t", 0), True, ("c",)])
        self.assertEqual([value_of(nodes, kind, "/c") for kind in KINDS], [None, False, None])

    def test_laid_by(self):
        for kind, value, lays in (("text", None, False), ("kids", None, False), ("there", False, True),
                                  ("there", True, True), ("text", ("", 0), True), ("kids", (), True)):
            self.assertIs(is_laid_by(kind, value), lays)

    def test_met(self):
        for kind, word, path in itertools.product(KINDS, ("made", "text", "gone", "kids"), ("/a", "/b")):
            self.assertIs(is_met(kind, "/a", (word, path)), path == "/a" and word in MET_BY[kind])


class TestKept(unittest.TestCase):

    def test_lay(self):
        kept = Watchers()
        self.assertEqual((kept.kept(), len(kept)), ([], 0))
        many = [("bob", "text", "/b"), ("bob", "kids", "/b"), ("amy", "there", "/x"), ("bob", "text", "/a")]
        for k, watcher in enumerate(many):
            for _ in range(2):
                self.assertIsNone(kept.lay(*watcher))
                self.assertEqual((kept.kept(), len(kept)), (sorted(many[:k + 1]), k + 1))

    def test_let_go(self):
        kept = laid(("bob", "text", "/b"), ("amy", "there", "/x"), ("bob", "kids", "/"), ("bo", "kids", "/"))
        self.assertIsNone(kept.let_go("joe"))
        self.assertEqual(len(kept), 4)
        for _ in range(2):
            self.assertIsNone(kept.let_go("bob"))
            self.assertEqual(kept.kept(), [("amy", "there", "/x"), ("bo", "kids", "/")])
        kept.let_go("amy")
        kept.let_go("bo")
        self.assertEqual((kept.kept(), len(kept)), ([], 0))
        kept.lay("bob", "text", "/b")
        self.assertEqual(kept.kept(), [("bob", "text", "/b")])

    def test_what_is_told_is_new(self):
        kept = laid(("bob", "text", "/b"), ("amy", "there", "/x"))
        kept.kept().clear()
        kept.kept().append("x")
        self.assertEqual(kept.kept(), [("amy", "there", "/x"), ("bob", "text", "/b")])
        self.assertIs(type(kept.kept()), list)


class TestMeet(unittest.TestCase):

    def test_each_kind_by_each_event(self):
        words, paths = ("made", "text", "gone", "kids"), ("/", "/a", "/a/b", "/a-000000")
        for kind, word, path in itertools.product(KINDS, words, paths):
            met = word in MET_BY[kind] and path == "/a"
            kept = laid(("bob", kind, "/a"))
            letters = kept.meet(HERE, [(word, path)])
            self.assertEqual(letters, [("event", "bob", kind, "/a", word, HERE)] if met else [])
            self.assertEqual(len(kept), 0 if met else 1)
            self.assertEqual(kept.meet((3, 5), [(word, path)]), [])

    def test_several_watchers_of_one_event(self):
        watchers = [("joe", "text", "/a"), ("amy", "there", "/a"), ("joe", "there", "/a"), ("amy", "kids", "/a"),
                    ("amy", "text", "/a"), ("bob", "text", "/b"), ("bob", "there", "/"), ("al", "text", "/a")]
        for order in (watchers, watchers[::-1], watchers[3:] + watchers[:3]):
            kept = laid(*order)
            self.assertEqual(kept.meet(HERE, [("gone", "/a")]), [
                ("event", "al", "text", "/a", "gone", HERE), ("event", "amy", "kids", "/a", "gone", HERE),
                ("event", "amy", "text", "/a", "gone", HERE), ("event", "amy", "there", "/a", "gone", HERE),
                ("event", "joe", "text", "/a", "gone", HERE), ("event", "joe", "there", "/a", "gone", HERE)])
            self.assertEqual(kept.kept(), [("bob", "text", "/b"), ("bob", "there", "/")])

    def test_event_by_event(self):
        kept = laid(("amy", "kids", "/"), ("amy", "there", "/a"), ("bob", "there", "/a"), ("amy", "text", "/a"))
        events = [("made", "/a"), ("kids", "/"), ("text", "/a"), ("gone", "/a"), ("kids", "/")]
        ahead = list(events)
        self.assertEqual(kept.meet((1, 2), events), [
            ("event", "amy", "there", "/a", "made", (1, 2)), ("event", "bob", "there", "/a", "made", (1, 2)),
            ("event", "amy", "kids", "/", "kids", (1, 2)), ("event", "amy", "text", "/a", "text", (1, 2))])
        self.assertEqual((events, len(kept)), (ahead, 0))
        self.assertEqual(kept.meet((1, 3), events), [])

    def test_of_no_events_and_of_no_watchers(self):
        kept = laid(("amy", "kids", "/"))
        self.assertEqual((kept.meet(HERE, []), len(kept)), ([], 1))
        self.assertEqual(Watchers().meet(HERE, [("gone", "/a"), ("kids", "/")]), [])

    def test_laid_again_it_is_met_again(self):
        kept = laid(("amy", "text", "/a"))
        for k in range(3):
            self.assertEqual(kept.meet((1, k), [("text", "/a")]), [("event", "amy", "text", "/a", "text", (1, k))])
            self.assertEqual(kept.meet((1, k), [("text", "/a")]), [])
            kept.lay("amy", "text", "/a")

    def test_what_is_told_is_new(self):
        kept = laid(("amy", "text", "/a"))
        kept.meet(HERE, [("kids", "/a")]).append("x")
        self.assertEqual(kept.meet(HERE, []), [])


TOLD = [
    ((1, 1), ("ok", None), []), ((1, 2), ("ok", "/a"), [("made", "/a"), ("kids", "/")]),
    ((1, 3), ("ok", 1), [("text", "/a")]), ((2, 1), ("ok", "/b"), [("made", "/b"), ("kids", "/")]),
    ((2, 2), ("ok", 2), [("text", "/a")]),
    ((4, 1), None, [("gone", "/a"), ("kids", "/"), ("gone", "/b"), ("kids", "/")])]


class TestAnew(unittest.TestCase):

    def check(self, watchers, letters, kept, *, ahead=(), told=None):
        are_unlike = len({watcher[:2] for watcher in watchers}) == len(watchers)
        for turned in (watchers, watchers[::-1]) if are_unlike else (watchers,):
            all_of_them = laid(*ahead)
            handed = list(TOLD if told is None else told)
            self.assertEqual(all_of_them.anew("bob", tuple(turned), handed), letters)
            self.assertEqual(all_of_them.kept(), sorted(kept))
            self.assertEqual(handed, TOLD if told is None else told)

    def test_by_the_first_event_behind_its_own_place(self):
        for kind, path, firsts in (
                ("text", "/a", (((0, 0), "text", (1, 3)), ((1, 2), "text", (1, 3)), ((1, 3), "text", (2, 2)),
                                ((2, 1), "text", (2, 2)), ((2, 2), "gone", (4, 1)), ((4, 0), "gone", (4, 1)))),
                ("there", "/a", (((0, 0), "made", (1, 2)), ((1, 1), "made", (1, 2)), ((1, 2), "text", (1, 3)),
                                 ((2, 9), "gone", (4, 1)))),
                ("kids", "/", (((1, 1), "kids", (1, 2)), ((1, 2), "kids", (2, 1)), ((2, 1), "kids", (4, 1)))),
                ("kids", "/a", (((0, 0), "gone", (4, 1)), ((4, 0), "gone", (4, 1)))),
                ("text", "/b", (((0, 0), "gone", (4, 1)),))):
            for place, word, met_at in firsts:
                self.check([(kind, path, place)], [("event", "bob", kind, path, word, met_at)], [])
            for place in ((4, 1), (4, 2), (9, 9)):
                self.check([(kind, path, place)], [], [("bob", kind, path)])

    def test_of_none_that_meets(self):
        for kind, path in (("text", "/"), ("there", "/c"), ("kids", "/a/b"), ("there", "/")):
            self.check([(kind, path, (0, 0))], [], [("bob", kind, path)])

    def test_the_order(self):
        self.check(
            [("there", "/a", (2, 2)), ("text", "/a", (1, 3)), ("kids", "/", (1, 2)), ("text", "/b", (2, 1)),
             ("there", "/b", (1, 1)), ("kids", "/a", (2, 1)), ("text", "/", (0, 0)), ("text", "/c", (0, 0))],
            [("event", "bob", "there", "/b", "made", (2, 1)), ("event", "bob", "kids", "/", "kids", (2, 1)),
             ("event", "bob", "text", "/a", "text", (2, 2)), ("event", "bob", "kids", "/a", "gone", (4, 1)),
             ("event", "bob", "there", "/a", "gone", (4, 1)), ("event", "bob", "text", "/b", "gone", (4, 1))],
            [("bob", "text", "/"), ("bob", "text", "/c")])

    def test_elder_ones_are_let_go_and_other_askers_stay(self):
        ahead = [("bob", "text", "/a"), ("bob", "kids", "/c"), ("amy", "text", "/a"), ("joe", "kids", "/")]
        others = ahead[2:]
        self.check([], [], others, ahead=ahead)
        self.check([("text", "/a", (9, 9))], [], others + [("bob", "text", "/a")], ahead=ahead)
        self.check([("there", "/c", (0, 0))], [], others + [("bob", "there", "/c")], ahead=ahead)
        self.check(
            [("text", "/a", (1, 1))], [("event", "bob", "text", "/a", "text", (1, 3))], others, ahead=ahead)

    def test_of_like_ones_the_place_of_the_last_one_counts(self):
        for first, last, met_at in (((1, 1), (1, 3), (2, 2)), ((1, 3), (1, 1), (1, 3))):
            self.check(
                [("text", "/a", first), ("text", "/a", last)], [("event", "bob", "text", "/a", "text", met_at)], [])
        self.check([("text", "/a", (1, 3)), ("text", "/a", (9, 9))], [], [("bob", "text", "/a")])

    def test_of_nothing_told(self):
        self.check([("text", "/a", (0, 0))], [], [("bob", "text", "/a")], told=[])
        self.check([("text", "/a", (0, 0))], [], [("bob", "text", "/a")], told=TOLD[:1])
        self.check([], [], [], told=[])

    def test_by_what_a_row_tells(self):
        row = [((1, 1), ask(1, deed=("open", 5))), ((1, 2), ask(2, deed=("make", "/a", "", True, False))),
               ((3, 1), ask(3, deed=("put", "/a", "x", None))), ((3, 2), ("end", "bob"))]
        told = told_by(row)
        self.check([("text", "/a", (1, 2)), ("kids", "/", (1, 2)), ("kids", "/a", (3, 2))], [
            ("event", "bob", "text", "/a", "text", (3, 1)), ("event", "bob", "kids", "/", "kids", (3, 2))],
            [("bob", "kids", "/a")], told=told)
        for place in ((0, 0), (1, 1), (1, 2), (3, 1), (3, 2)):
            later = [thing for thing in told if thing[0] in [one for one, _ in behind(row, place)]]
            one, other = Watchers(), Watchers()
            watchers = (("there", "/a", place), ("kids", "/", place))
            self.assertEqual(one.anew("bob", watchers, told), other.anew("bob", watchers, later))
            self.assertEqual(one, other)

    def test_kept_ones_are_met_later_and_told_ones_are_not(self):
        kept = Watchers()
        letters = kept.anew("bob", (("text", "/a", (2, 2)), ("there", "/c", (2, 2))), TOLD)
        self.assertEqual(letters, [("event", "bob", "text", "/a", "gone", (4, 1))])
        self.assertEqual(kept.meet((5, 1), [("made", "/c"), ("text", "/a")]), [
            ("event", "bob", "there", "/c", "made", (5, 1))])


class TestAlike(unittest.TestCase):

    def test_equal_just_where_they_keep_the_same(self):
        watchers = [("bob", "text", "/b"), ("amy", "there", "/x"), ("bob", "kids", "/")]
        for k in range(4):
            for n in range(4):
                self.assertIs(laid(*watchers[:k]) == laid(*watchers[:n]), k == n)
                self.assertIs(laid(*watchers[:k]) != laid(*watchers[:n]), k != n)
        for order in itertools.permutations(watchers):
            self.assertEqual(laid(*order), laid(*watchers))
        for other in (("bob", "text", "/a"), ("amy", "text", "/b"), ("bob", "there", "/b")):
            self.assertNotEqual(laid(other), laid(watchers[0]))
        met = laid(*watchers)
        met.meet(HERE, [("text", "/b")])
        self.assertEqual(met, laid(*watchers[1:]))

    def test_like_nothing_that_is_none(self):
        for kept in (Watchers(), laid(("bob", "text", "/b"))):
            for thing in things() + [Stranger(), kept.kept(), [], len(kept), {("bob", "text", "/b"): True}, "Watchers"]:
                if not isinstance(thing, Unlike):
                    self.assertIs(thing == kept, False, repr(thing))
                self.assertIs(kept == thing, False, repr(thing))
                self.assertIs(kept != thing, True, repr(thing))

    def test_twin(self):
        kept = laid(("bob", "text", "/b"), ("amy", "there", "/x"))
        other = kept.twin()
        self.assertIsNot(other, kept)
        self.assertEqual((other, other.kept(), len(other)), (kept, kept.kept(), 2))
        other.lay("bob", "kids", "/")
        kept.let_go("bob")
        self.assertNotEqual(other, kept)
        self.assertEqual(kept.kept(), [("amy", "there", "/x")])
        self.assertEqual(other.kept(), [("amy", "there", "/x"), ("bob", "kids", "/"), ("bob", "text", "/b")])
        other.meet(HERE, [("gone", "/x")])
        self.assertEqual(len(kept), 1)
        self.assertEqual(Watchers().twin(), Watchers())


class TestNames(unittest.TestCase):

    def test_by_names(self):
        self.assertEqual(by_names(is_watcher, thing=("bob", "text", "/a")), [True])
        kept = Watchers()
        self.assertEqual(set(by_names(kept.lay, asker="bob", kind="text", path="/a")), {None})
        self.assertEqual(kept.kept(), [("bob", "text", "/a")])
        for letters in by_names(lambda **named: kept.twin().meet(**named), place=HERE, events=[("text", "/a")]):
            self.assertEqual(letters, [("event", "bob", "text", "/a", "text", HERE)])
        for letters in by_names(kept.anew, asker="bob", watchers=(("text", "/a", (1, 1)),), told=TOLD):
            self.assertEqual(letters, [("event", "bob", "text", "/a", "text", (1, 3))])
        kept.lay("bob", "text", "/a")
        self.assertIsNone(kept.let_go(asker="bob"))
        self.assertEqual(len(kept), 0)


if __name__ == "__main__":
    unittest.main()
