"""Points 7 and 8: deeds, entries, states; of point 3 (c) and (e) what a state keeps."""

import copy
import random
import unittest

from tests.helper import by_names, spoilt, things
from tests.test_nodes import KINDS, NO_PLAIN, PLAIN
from watchednodes.errors import NoEntry
from watchednodes.nodes import MOST_NODES, done_plain
from watchednodes.paths import parent_of
from watchednodes.states import done, first_state, is_deed, is_entry

SEE = ("see", "/", None)
MAKE = ("make", "/a", "", False, False)
HERE = (3, 7)
DEEDS = PLAIN + [
    ("open", 1), ("open", 2), ("open", 1000), ("close",), ("bring",), ("all", (SEE,)),
    ("all", (SEE,) * 6), ("all", tuple(PLAIN[:5])), ("all", (MAKE, ("put", "/a", "x", 0)))]
NO_DEEDS = [thing for thing in NO_PLAIN if thing not in DEEDS and thing != ("open", 5)] + [
    ("open",), ("open", 0), ("open", -1), ("open", 1001), ("open", True), ("open", None), ("open", "1"),
    ("open", 1, 1), ("open", (1,)), ("open", 1.0), ("close", None), ("close", ()), ("bring", None),
    ("bring", ()), ["close"], ["open", 5], "close", "bring", "open", ("Close",), ("close", "close"),
    ("all",), ("all", ()), ("all", (SEE,) * 7), ("all", [SEE]), ("all", SEE), ("all", SEE, SEE),
    ("all", (SEE,), None), ("all", (list(SEE),)), ("all", (SEE, None)), ("all", (None, SEE)),
    ("all", (("close",),)), ("all", (("bring",),)), ("all", (("open", 5),)), ("all", (("all", (SEE,)),)),
    ("all", (SEE, ("drop", "/", None))), ("all", (SEE, ("put", "/", "", True))), ("all", None),
    ("all", {0: SEE}), ("all", {SEE}), ("all", "see"), ("all", ((),)), ("all", (SEE, [])), (["all"], (SEE,)),
    ("end", "bob"), ("ask", "bob", 1, SEE), (("close",),)]
ENTRIES = [("ask", "bob", 1, deed) for deed in DEEDS] + [
    ("ask", "a", 1, SEE), ("ask", "abcdefgh", 2, SEE), ("ask", "bob", 10 ** 29, SEE),
    ("end", "bob"), ("end", "a"), ("end", "abcdefgh")]
NO_ENTRIES = [("ask", "bob", 1, deed) for deed in NO_DEEDS] + DEEDS
NO_ENTRIES = NO_ENTRIES + [thing for thing in NO_DEEDS if thing not in ENTRIES] + [
    ("ask", "bob", 0, SEE), ("ask", "bob", -1, SEE), ("ask", "bob", True, SEE), ("ask", "bob", None, SEE),
    ("ask", "bob", "1", SEE), ("ask", "", 1, SEE), ("ask", "abcdefghi", 1, SEE), ("ask", "Bob", 1, SEE),
    ("ask", "bob-000001", 1, SEE), ("ask", "/bob", 1, SEE), ("ask", None, 1, SEE), ("ask", ["bob"], 1, SEE),
    ("ask", "bob", 1), ("ask", "bob", SEE), ("ask", "bob", 1, SEE, None), ("ask", "bob"), ("ask",),
    ("ask", 1, "bob", SEE), ("asks", "bob", 1, SEE), ("", "bob", 1, SEE), (None, "bob", 1, SEE),
    ("end",), ("end", ""), ("end", "abcdefghi"), ("end", "Bob"), ("end", None), ("end", "bob", 1),
    ("end", "bob", 1, SEE), ("end", ("bob",)), ("end", True), ["end", "bob"], ("ends", "bob"),
    (["end"], "bob"), ({}, "bob"), (("end",), "bob"), "end", "ask", ("ask", "bob", [1], SEE)]


def no_deeds():
    """Things that are no deeds."""
    told = NO_DEEDS + things() + spoilt(("open", 5), ("other", "limit"))
    for deed in (("close",), ("bring",), ("all", (SEE,))):
        told = told + spoilt(deed, ("other",) * len(deed))
    for plain in PLAIN:
        kinds = KINDS[plain[0]]
        told = told + spoilt(plain, kinds)
        told = told + [("all", (SEE, bad, SEE)) for bad in spoilt(plain, kinds)]
    return told


def no_entries():
    """Things that are no entries."""
    told = NO_ENTRIES + things()
    for deed in DEEDS:
        told = told + spoilt(("ask", "bob", 3, deed), ("other", "other", "stamp", "other"))
    told = told + [("ask", "bob", 3, deed) for deed in no_deeds()]
    return told + spoilt(("end", "bob"), ("other", "other"))


def opened():
    """A state with nodes of bob, amy and nobody; bob and amy have sessions, joe had one."""
    nodes = {
        "/": ("root", 1, 4, None), "/b": ("t", 2, 3, None), "/b/m-000002": ("", 0, 0, "bob"),
        "/b/m-000000": ("", 0, 0, "amy"), "/a": ("", 0, 0, "bob"), "/b/m": ("", 0, 0, "bob"),
        "/a-000000": ("", 5, 0, "bob"), "/c": ("", 0, 0, None),
    }
    sessions = {
        "bob": (5, 4, ("ok", 2), (1, 3)), "amy": (9, 2, ("no", "lacks"), (1, 4)),
        "joe": (None, 6, ("ok", None), (2, 1)),
    }
    return nodes, sessions


class Told(unittest.TestCase):
    """Checks of what done tells, beside the thing itself."""

    def told(self, state, entry, place=HERE):
        """What is told, once it is sure that it is told as new and the state stays."""
        ahead = copy.deepcopy(state)
        told = done(state, entry, place=place)
        self.assertEqual(state, ahead)
        self.check_kinds(told)
        again = done(state, entry, place=place)
        self.assertEqual(again, told)
        for mine, other in ((told[0][0], again[0][0]), (told[0][1], again[0][1]), (told[2], again[2]),
                            (told[0][0], state[0]), (told[0][1], state[1])):
            self.assertIsNot(mine, other)
        again[0][0].clear()
        again[0][1].clear()
        again[2].append("x")
        self.assertEqual(state, ahead)
        self.assertEqual(done(state, entry, place=place), told)
        return told

    def check_kinds(self, told):
        """A state is a tuple of two dicts; no list or dict is told but where one is promised."""
        self.assertEqual([type(thing) for thing in (told, told[0], told[2])], [tuple, tuple, list])
        self.assertEqual([type(thing) for thing in told[0]], [dict, dict])
        for node in told[0][0].values():
            self.assertIs(type(node), tuple)
        for session in told[0][1].values():
            self.assertIs(type(session), tuple)
            hash(session)
        hash(told[1])
        for event in told[2]:
            self.assertIs(type(event), tuple)

    def check(self, entry, answer, *, ahead=None, place=HERE, limit=None, nodes=None, events=()):
        """The ask is done: stamp, answer and place become the last ones."""
        ahead = opened() if ahead is None else ahead
        sessions = dict(ahead[1])
        sessions[entry[1]] = (limit, entry[2], answer, place)
        state = (ahead[0] if nodes is None else nodes, sessions)
        self.assertEqual(self.told(ahead, entry, place), (state, answer, list(events)))

    def check_nothing(self, entry, answer, *, ahead=None):
        """The entry changes nothing."""
        ahead = opened() if ahead is None else ahead
        self.assertEqual(self.told(ahead, entry), (ahead, answer, []))


class TestTruths(unittest.TestCase):

    def test_deeds(self):
        for thing in DEEDS:
            self.assertIs(is_deed(thing), True, repr(thing))

    def test_no_deeds(self):
        for thing in no_deeds():
            self.assertIs(is_deed(thing), False, repr(thing))

    def test_limits(self):
        for limit in (-1, 0, 1, 2, 999, 1000, 1001, 10 ** 29):
            self.assertIs(is_deed(("open", limit)), 1 <= limit <= 1000)

    def test_all_of_one_to_six(self):
        for count in range(9):
            self.assertIs(is_deed(("all", (SEE,) * count)), 1 <= count <= 6)

    def test_entries(self):
        for thing in ENTRIES:
            self.assertIs(is_entry(thing), True, repr(thing))

    def test_no_entries(self):
        for thing in no_entries():
            self.assertIs(is_entry(thing), False, repr(thing))

    def test_by_name(self):
        self.assertIs(is_deed(thing=("close",)), True)
        self.assertIs(is_deed(thing=[]), False)
        self.assertIs(is_entry(thing=("end", "bob")), True)
        self.assertIs(is_entry(thing={}), False)


class TestFirstState(unittest.TestCase):

    def test_first_state(self):
        self.assertEqual(first_state(), ({"/": ("", 0, 0, None)}, {}))
        self.assertEqual([type(thing) for thing in first_state()], [dict, dict])
        self.assertIs(type(first_state()), tuple)

    def test_a_new_one_each_time(self):
        told = first_state()
        told[0].clear()
        told[1]["bob"] = (1, 1, None, (0, 0))
        self.assertEqual(first_state(), ({"/": ("", 0, 0, None)}, {}))


class TestSessions(Told):

    def test_open(self):
        for limit in (1, 2, 1000):
            self.check(("ask", "bob", 1, ("open", limit)), ("ok", None), ahead=first_state(), limit=limit)
            self.check(("ask", "eve", 1, ("open", limit)), ("ok", None), limit=limit)

    def test_open_where_one_stands(self):
        for limit in (5, 6):
            self.check(("ask", "bob", 5, ("open", limit)), ("no", "open"), limit=5)

    def test_open_again(self):
        self.check(("ask", "joe", 7, ("open", 3)), ("ok", None), limit=3)

    def test_all_else_is_closed_where_none_stands(self):
        for deed in DEEDS:
            if deed[0] != "open":
                self.check(("ask", "joe", 7, deed), ("no", "closed"))
                self.check(("ask", "eve", 1, deed), ("no", "closed"))
                self.check(("ask", "eve", 12, deed), ("no", "closed"), ahead=first_state())

    def test_bring(self):
        self.check(("ask", "bob", 5, ("bring",)), ("ok", None), limit=5)

    def test_places_are_kept_as_told(self):
        for place in ((1, 1), (0, 0), (2, 10 ** 29)):
            self.check(("ask", "bob", 5, ("bring",)), ("ok", None), limit=5, place=place)
            self.check(("ask", "joe", 7, ("bring",)), ("no", "closed"), place=place)

    def test_close(self):
        nodes = opened()[0]
        for path in ("/a", "/a-000000", "/b/m", "/b/m-000002"):
            del nodes[path]
        self.check(
            ("ask", "bob", 5, ("close",)), ("ok", None), nodes=nodes,
            events=[("gone", "/a"), ("kids", "/"), ("gone", "/a-000000"), ("kids", "/"),
                    ("gone", "/b/m"), ("kids", "/b"), ("gone", "/b/m-000002"), ("kids", "/b")])

    def test_close_of_another_one(self):
        nodes = opened()[0]
        del nodes["/b/m-000000"]
        self.check(
            ("ask", "amy", 3, ("close",)), ("ok", None), nodes=nodes,
            events=[("gone", "/b/m-000000"), ("kids", "/b")])

    def test_close_without_nodes(self):
        ahead = ({"/": ("", 0, 1, None), "/a": ("", 0, 0, None)}, opened()[1])
        self.check(("ask", "bob", 5, ("close",)), ("ok", None), ahead=ahead)

    def test_end(self):
        ahead = opened()
        after = done(ahead, ("ask", "bob", 5, ("close",)), place=HERE)
        ahead[1]["bob"] = (None,) + ahead[1]["bob"][1:]
        told = self.told(opened(), ("end", "bob"))
        self.assertEqual(told, ((after[0][0], ahead[1]), None, after[2]))
        self.assertEqual(told[0][0]["/b"], ("t", 2, 3, None))
        self.assertEqual(told[0][1]["bob"], (None, 4, ("ok", 2), (1, 3)))
        self.assertEqual(len(told[2]), 8)

    def test_end_without_nodes(self):
        ahead = ({"/": ("", 0, 0, None)}, {"bob": (1, 1, ("ok", None), (1, 1))})
        after = ({"/": ("", 0, 0, None)}, {"bob": (None, 1, ("ok", None), (1, 1))})
        self.assertEqual(self.told(ahead, ("end", "bob")), (after, None, []))

    def test_end_where_none_stands(self):
        for asker in ("joe", "eve"):
            self.check_nothing(("end", asker), None)
        self.check_nothing(("end", "bob"), None, ahead=first_state())

    def test_ended_twice(self):
        for first in (("end", "bob"), ("ask", "bob", 5, ("close",))):
            state = done(opened(), first, place=(2, 2))[0]
            self.check_nothing(("end", "bob"), None, ahead=state)
            self.check(("ask", "bob", 6, ("close",)), ("no", "closed"), ahead=state)

    def test_opened_again(self):
        for first in (("end", "bob"), ("ask", "bob", 5, ("close",))):
            state = done(opened(), first, place=(2, 2))[0]
            self.check(("ask", "bob", 6, ("open", 8)), ("ok", None), ahead=state, limit=8)
            state = done(state, ("ask", "bob", 6, ("open", 8)), place=(2, 3))[0]
            state, answer, _ = done(state, ("ask", "bob", 7, ("make", "/a", "", True, False)), place=(2, 4))
            self.assertEqual(answer, ("ok", "/a"))
            state, _, events = done(state, ("end", "bob"), place=(2, 5))
            self.assertEqual(events, [("gone", "/a"), ("kids", "/")])
            self.assertEqual(state[0]["/"], ("root", 1, 5, None))
            self.assertEqual(state[1]["bob"], (None, 7, ("ok", "/a"), (2, 4)))

    def test_an_end_changes_no_stamp(self):
        state = done(opened(), ("end", "bob"), place=(2, 2))[0]
        self.check_nothing(("ask", "bob", 4, SEE), ("ok", 2), ahead=state)
        self.check_nothing(("ask", "bob", 3, SEE), None, ahead=state)


class TestStamps(Told):

    def test_alike(self):
        for deed in DEEDS:
            self.check_nothing(("ask", "bob", 4, deed), ("ok", 2))
            self.check_nothing(("ask", "amy", 2, deed), ("no", "lacks"))
            self.check_nothing(("ask", "joe", 6, deed), ("ok", None))

    def test_lesser(self):
        for deed in DEEDS:
            for stamp in (1, 2, 3):
                self.check_nothing(("ask", "bob", stamp, deed), None)
                self.check_nothing(("ask", "joe", stamp, deed), None)
            self.check_nothing(("ask", "amy", 1, deed), None)

    def test_greater(self):
        for stamp in (5, 6, 100, 10 ** 29):
            self.check(("ask", "bob", stamp, SEE), ("ok", 1), limit=5)
            self.check(("ask", "bob", stamp, ("see", "/x", None)), ("no", "lacks"), limit=5)
        for stamp in (7, 100):
            self.check(("ask", "joe", stamp, SEE), ("no", "closed"))

    def test_each_asker_has_stamps_of_its_own(self):
        self.check(("ask", "amy", 3, SEE), ("ok", 1), limit=9)
        self.check(("ask", "eve", 1, ("open", 2)), ("ok", None), limit=2)

    def test_a_first_stamp_may_be_any(self):
        self.check(("ask", "eve", 10 ** 29, ("open", 2)), ("ok", None), limit=2)

    def test_asked_twice_it_is_done_once(self):
        for deed in DEEDS:
            entry = ("ask", "bob", 5, deed)
            state, answer, _ = done(opened(), entry, place=(4, 1))
            self.check_nothing(entry, answer, ahead=state)
            self.check_nothing(("ask", "bob", 5, SEE), answer, ahead=state)
            self.check_nothing(("ask", "bob", 4, deed), None, ahead=state)

    def test_asked_without_a_session_it_is_not_done_later(self):
        state = done(first_state(), ("ask", "bob", 1, MAKE), place=(1, 1))[0]
        state = done(state, ("ask", "bob", 2, ("open", 5)), place=(1, 2))[0]
        self.check_nothing(("ask", "bob", 1, MAKE), None, ahead=state)
        self.check_nothing(("ask", "bob", 2, MAKE), ("ok", None), ahead=state)


class TestPlainDeeds(Told):

    def test_as_by_nodes_alone(self):
        for deed in PLAIN:
            nodes, answer, events = done_plain(opened()[0], deed, asker="bob")
            self.check(("ask", "bob", 5, deed), answer, limit=5, nodes=nodes, events=events)

    def test_own(self):
        for asker, limit, stamp in (("bob", 5, 5), ("amy", 9, 3)):
            nodes = opened()[0]
            nodes["/b/own-000003"] = ("t", 0, 0, asker)
            nodes["/b"] = ("t", 2, 4, None)
            self.check(
                ("ask", asker, stamp, ("make", "/b/own", "t", True, True)), ("ok", "/b/own-000003"),
                limit=limit, nodes=nodes, events=[("made", "/b/own-000003"), ("kids", "/b")])

    def test_no(self):
        for deed, word in ((("make", "/x/y", "", False, False), "parent"),
                           (("make", "/a/y", "", False, False), "own"), (MAKE, "there"),
                           (("put", "/x", "", None), "lacks"), (("put", "/c", "", 1), "count"),
                           (("drop", "/b", None), "kids"), (("see", "/", 2), "count")):
            self.check(("ask", "bob", 5, deed), ("no", word), limit=5)

    def test_full(self):
        nodes = {"/": ("", 0, 59, None)}
        nodes.update({f"/x-{k:06d}": ("", 0, 0, None) for k in range(59)})
        self.assertEqual(len(nodes), 60)
        self.check(("ask", "bob", 5, MAKE), ("no", "full"), ahead=(nodes, opened()[1]), limit=5)


class TestAll(Told):

    def test_of_one(self):
        for deed in PLAIN:
            nodes, answer, events = done_plain(opened()[0], deed, asker="bob")
            told = ("ok", (answer[1],)) if answer[0] == "ok" else ("no", answer[1], 0)
            self.check(
                ("ask", "bob", 5, ("all", (deed,))), told, limit=5, nodes=nodes, events=events)

    def test_of_six_that_hang_on_one_another(self):
        deeds = (("make", "/n", "", False, False), ("make", "/n/m", "t", True, True),
                 ("put", "/n", "x", 0), ("put", "/n", "y", 1), ("see", "/n", 2), ("drop", "/n/m-000000", 0))
        nodes = opened()[0]
        nodes["/n"] = ("y", 2, 1, None)
        nodes["/"] = ("root", 1, 5, None)
        self.check(
            ("ask", "bob", 5, ("all", deeds)), ("ok", ("/n", "/n/m-000000", 1, 2, 2, None)),
            limit=5, nodes=nodes,
            events=[("made", "/n"), ("kids", "/"), ("made", "/n/m-000000"), ("kids", "/n"),
                    ("text", "/n"), ("text", "/n"), ("gone", "/n/m-000000"), ("kids", "/n")])

    def test_own(self):
        nodes = opened()[0]
        nodes["/n"] = ("", 0, 0, "amy")
        nodes["/"] = ("root", 1, 5, None)
        self.check(
            ("ask", "amy", 3, ("all", (SEE, ("make", "/n", "", True, False)))), ("ok", (1, "/n")),
            limit=9, nodes=nodes, events=[("made", "/n"), ("kids", "/")])

    def test_first_middle_and_last_no(self):
        good = ("put", "/c", "x", None)
        for many in range(1, 7):
            for k in range(many):
                for bad, word in ((("see", "/x", None), "lacks"), (("put", "/c", "", 9), "count"),
                                  (MAKE, "there"), (("make", "/a/b", "", True, True), "own"),
                                  (("make", "/x/b", "", True, True), "parent"), (("drop", "/b", 2), "kids")):
                    deeds = (good,) * k + (bad,) + (good,) * (many - k - 1)
                    self.check(("ask", "bob", 5, ("all", deeds)), ("no", word, k), limit=5)

    def test_of_several_no_the_first_is_told(self):
        deeds = (SEE, ("put", "/x", "", None), ("see", "/", 9), ("drop", "/b", None))
        self.check(("ask", "bob", 5, ("all", deeds)), ("no", "lacks", 1), limit=5)

    def test_no_by_what_a_deed_ahead_did(self):
        for deeds, word, k in (
                ((MAKE[:1] + ("/n",) + MAKE[2:],) * 2, "there", 1),
                ((("drop", "/c", None), ("see", "/c", None)), "lacks", 1),
                ((("put", "/c", "", 0), ("see", "/c", None), ("put", "/c", "", 0)), "count", 2),
                ((("make", "/n", "", True, False), SEE, ("make", "/n/m", "", False, False)), "own", 2),
                ((("make", "/c/m", "", False, False), ("drop", "/c", None)), "kids", 1)):
            self.check(("ask", "bob", 5, ("all", deeds)), ("no", word, k), limit=5)

    def test_it_is_full_within(self):
        nodes = {"/": ("", 0, 58, None)}
        nodes.update({f"/x-{k:06d}": ("", 0, 0, None) for k in range(58)})
        deeds = (("make", "/n", "", False, False), ("make", "/m", "", False, False))
        self.check(
            ("ask", "bob", 5, ("all", deeds)), ("no", "full", 1), ahead=(nodes, opened()[1]), limit=5)


class TestDone(Told):

    def test_no_entry(self):
        for thing in no_entries():
            state = opened()
            with self.assertRaises(NoEntry):
                done(state, thing, place=HERE)
            self.assertEqual(state, opened())

    def test_by_name(self):
        entry = ("ask", "bob", 5, ("all", (SEE, ("drop", "/c", 0))))
        right = done(opened(), entry, place=HERE)
        self.assertEqual(right[1], ("ok", (1, None)))
        for told in by_names(done, state=opened(), entry=entry, place=HERE):
            self.assertEqual(told, right)

    def test_place_by_name_alone(self):
        with self.assertRaises(TypeError):
            done(first_state(), ("end", "bob"), HERE)
        with self.assertRaises(TypeError):
            done(first_state(), ("end", "bob"))

    def test_the_order_of_the_keys_is_nothing(self):
        nodes, sessions = opened()
        turned = (dict(reversed(list(nodes.items()))), dict(reversed(list(sessions.items()))))
        for entry in ENTRIES + [("ask", "bob", 5, ("close",)), ("ask", "amy", 3, ("close",))]:
            self.assertEqual(done(turned, entry, place=HERE), done(opened(), entry, place=HERE))


def some_path(chance):
    """A path of few, so that deeds often meet."""
    return "".join(["/" + chance.choice("abc") for _ in range(chance.randrange(1, 4))])


def some_plain(chance):
    """A plain deed."""
    path, count = some_path(chance), chance.choice([None, None, 0, 1])
    return chance.choice([
        ("make", path, "", chance.random() < 0.4, chance.random() < 0.5),
        ("make", path, "", False, False), ("put", path, "x", count), ("drop", path, count),
        ("see", path, count)])


def some_deed(chance):
    """A deed, most often a plain one."""
    kind = chance.randrange(12)
    if kind == 0:
        return ("open", chance.randrange(1, 1001))
    if kind == 1:
        return chance.choice([("close",), ("bring",)])
    if kind == 2:
        return ("all", tuple([some_plain(chance) for _ in range(chance.randrange(1, 7))]))
    return some_plain(chance)


class TestWeavings(Told):
    """Many entries, one behind the other, some of them twice, late or ahead of others."""

    def weave(self, seed):
        """The entries of a weaving and what each told."""
        chance = random.Random(seed)
        state, row = first_state(), []
        for k in range(120):
            asker = chance.choice(["bob", "amy", "joe"])
            last = state[1].get(asker, (None, 0))[1]
            entry = ("ask", asker, max(1, last + chance.choice([-1, 0, 1, 1, 1, 1, 1, 3])), some_deed(chance))
            if chance.randrange(15) == 0:
                entry = ("end", asker)
            place = (1, k + 1)
            told = done(state, entry, place=place)
            row.append((state, entry, place, told))
            state = told[0]
        return row

    def test_an_ask_is_done_at_most_once_and_in_order(self):
        for seed in range(20):
            stamps = {}
            for state, entry, place, (after, answer, events) in self.weave(seed):
                if entry[0] == "end":
                    continue
                _, asker, stamp, _ = entry
                ahead = stamps.get(asker, (0, None))
                if stamp > ahead[0]:
                    self.assertEqual(after[1][asker][1:], (stamp, answer, place))
                    stamps[asker] = (stamp, answer)
                else:
                    self.assertEqual((after, events), (state, []))
                    self.assertEqual(answer, ahead[1] if stamp == ahead[0] else None)

    def test_a_sessions_nodes_go_just_once_at_its_end(self):
        for seed in range(20):
            for state, entry, _, (after, answer, events) in self.weave(seed):
                asker = entry[1]
                ended = state[1].get(asker, (None,))[0] is not None and after[1][asker][0] is None
                own = sorted([path for path in state[0] if state[0][path][3] == asker])
                if ended:
                    self.assertEqual([path for word, path in events if word == "gone"], own)
                    self.assertEqual(sorted(after[0]), sorted(set(state[0]) - set(own)))
                for path, node in after[0].items():
                    if node[3] is not None:
                        self.assertIsNotNone(after[1][node[3]][0], path)

    def test_nodes_stay_nodes(self):
        for seed in range(20):
            for _, _, _, (after, _, _) in self.weave(seed):
                self.assertLessEqual(len(after[0]), MOST_NODES)
                for path in after[0]:
                    self.assertIn(parent_of(path), after[0])

    def test_events_are_those_of_the_change(self):
        for seed in range(20):
            for state, _, _, (after, answer, events) in self.weave(seed):
                lost = set(state[0]) - set(after[0])
                new = set(after[0]) - set(state[0])
                self.assertLessEqual(lost, {path for word, path in events if word == "gone"})
                self.assertLessEqual(new, {path for word, path in events if word == "made"})
                if answer is None or answer[0] == "no":
                    self.assertTrue(answer is None or events == [])

    def test_told_alike_again_and_as_new(self):
        for seed in range(3):
            for state, entry, place, told in self.weave(seed):
                self.assertEqual(self.told(state, entry, place), told)


if __name__ == "__main__":
    unittest.main()
