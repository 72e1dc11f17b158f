"""Point 21: judging what an asker heard by a row, and rows by one another."""

import copy
import itertools
import unittest

from tests.helper import by_names
from tests.test_houses import opened
from tests.woven import ask, row_at
from watchednodes.judging import are_beginnings, first_amiss
from watchednodes.paths import NOWHERE

MAKE, PUT, DROP = ("make", "/a", "t", False, False), ("put", "/a", "u", None), ("drop", "/a", None)
CHILD, SEE = ("make", "/a/b", "", True, False), ("see", "/a", 1)
ROW = [
    ((1, 1), opened("bob", 9)), ((1, 2), ask(2, deed=MAKE)), ((1, 3), opened("amy", 9)), ((2, 1), ask(3, deed=PUT)),
    ((2, 2), ask(2, "amy", CHILD)), ((2, 3), ask(4, deed=SEE)), ((4, 1), ask(3, "amy", ("drop", "/a/b", None))),
    ((4, 2), ask(5, deed=DROP)), ((4, 3), ("end", "bob"))]
PLACES = [NOWHERE] + [place for place, _ in ROW]

BOBS = [
    ("answer", 1, ("open", 9), ("ok", None), (1, 1)), ("answer", 2, MAKE, ("ok", "/a"), (1, 2)),
    ("answer", 3, PUT, ("ok", 1), (2, 1)), ("answer", 4, SEE, ("ok", 1), (2, 3)),
    ("answer", 5, DROP, ("ok", None), (4, 2))]
AMYS = [
    ("answer", 1, ("open", 9), ("ok", None), (1, 3)), ("answer", 2, CHILD, ("ok", "/a/b"), (2, 2)),
    ("answer", 3, ("drop", "/a/b", None), ("ok", None), (4, 1))]


def told(number, kind, path, value, place):
    return ("told", number, kind, path, value, place)


def event(kind, path, word, place):
    return ("event", kind, path, word, place)


class Judged(unittest.TestCase):

    def check(self, amiss, *heard, laid=(), asker="bob", row=None):
        """What is amiss first of what was heard."""
        row = ROW if row is None else row
        handed = copy.deepcopy((row, list(heard), list(laid)))
        found = first_amiss(row, asker, list(heard), list(laid))
        self.assertEqual(found, amiss, heard)
        self.assertEqual((row, list(heard), list(laid)), handed)
        if amiss is not None:
            self.assertIs(type(found), tuple)


class TestAnswers(Judged):

    def test_all_stands(self):
        self.check(None)
        for many in range(6):
            for some in itertools.combinations(BOBS, many):
                self.check(None, *some)
        self.check(None, *AMYS, asker="amy")
        self.check(None, asker="joe", row=[])

    def test_of_another_asker(self):
        self.check(("answer", 0), AMYS[0])
        self.check(("answer", 0), BOBS[0], asker="amy")
        self.check(("answer", 0), BOBS[0], asker="joe")
        self.check(("answer", 0), BOBS[0], row=[])

    def test_one_thing_otherwise(self):
        for k, good in enumerate(BOBS):
            for at, others in ((1, [k, k + 2, 9, True, None, "1"]), (2, [("bring",), ("close",), None, BOBS[k - 1][2]]),
                               (3, [("ok", 7), ("ok",), ("no", "lacks"), None, "ok", ("ok", None, None), ["ok", None]]),
                               (4, [NOWHERE, (1, 3), (4, 3), (9, 9), None, [1, 1], (1, 1, 1), BOBS[k - 1][4]])):
                for other in others:
                    bad = good[:at] + (other,) + good[at + 1:]
                    self.check(("answer", 0), bad)
                    self.check(("answer", k), *BOBS[:k], bad)

    def test_a_truth_is_no_number(self):
        for bad in (("answer", 3, PUT, ("ok", True), (2, 1)), ("answer", 3, PUT, ("ok", 1), (2, True)),
                    ("answer", 4, ("see", "/a", True), ("ok", 1), (2, 3)), ("answer", True, BOBS[0][2], ("ok", None), (1, 1)),
                    ("answer", 2, ("make", "/a", "t", 0, False), ("ok", "/a"), (1, 2)),
                    ("answer", 2, ("make", "/a", "t", False, 0), ("ok", "/a"), (1, 2)),
                    ("answer", 1, ("open", 9), ("ok", None), (True, 1))):
            self.check(("answer", 0), bad)

    def test_the_entry_first_met_counts(self):
        row = ROW[:2] + [((1, 3), ask(2, deed=SEE)), ((1, 4), ask(2, deed=MAKE))]
        self.check(None, BOBS[1], row=row)
        self.check(("answer", 0), ("answer", 2, SEE, ("ok", "/a"), (1, 3)), row=row)
        self.check(("answer", 0), ("answer", 2, MAKE, ("ok", "/a"), (1, 4)), row=row)

    def test_stamps_and_places_rise(self):
        self.check(("answer", 1), BOBS[0], BOBS[0])
        self.check(("answer", 1), BOBS[1], BOBS[0])
        self.check(("answer", 2), BOBS[0], BOBS[2], BOBS[1])
        self.check(("answer", 2), BOBS[0], BOBS[2], BOBS[2], BOBS[3])
        # Stamps rise, but the places of these entries don't.
        row = [((1, 1), opened("bob", 9)), ((1, 2), ask(5)), ((1, 3), ask(4))]
        self.check(None, ("answer", 4, ("bring",), None, (1, 3)), row=row)
        self.check(("answer", 1), ("answer", 4, ("bring",), None, (1, 3)),
                   ("answer", 5, ("bring",), ("ok", None), (1, 2)), row=row)
        # Places rise, but stamps don't.
        self.check(("answer", 1), ("answer", 5, ("bring",), ("ok", None), (1, 2)),
                   ("answer", 4, ("bring",), None, (1, 3)), row=row)

    def test_places_of_answers_among_themselves_alone(self):
        self.check(None, told(1, "there", "/a", False, (4, 2)), *BOBS)
        self.check(None, told(1, "there", "/a", False, NOWHERE), event("there", "/a", "made", (1, 2)), BOBS[0], laid=[1])


class TestTold(Judged):

    VALUES = {
        ("text", "/a"): [None, None, ("t", 0), ("t", 0), ("u", 1), ("u", 1), ("u", 1), ("u", 1), None, None],
        ("there", "/a"): [False, False, True, True, True, True, True, True, False, False],
        ("kids", "/a"): [None, None, (), (), (), ("b",), ("b",), (), None, None],
        ("kids", "/"): [(), (), ("a",), ("a",), ("a",), ("a",), ("a",), ("a",), (), ()],
        ("text", "/"): [("", 0)] * 10, ("there", "/"): [True] * 10, ("there", "/x"): [False] * 10,
        ("text", "/a/b"): [None] * 5 + [("", 0)] * 2 + [None] * 3}

    def test_the_state_at_each_place(self):
        for (kind, path), values in self.VALUES.items():
            for place, value in zip(PLACES, values):
                self.check(None, told(3, kind, path, value, place))
                for other in (None, True, False, (), ("a",), ("b",), ("t", 0), ("u", 1), ("u", True), ("t", False), ("", 0),
                              0, 1, [], ["a"], ["u", 1], ("a", "b"), "a", ("", False), ("u", 1, None), {}):
                    like = type(other) is type(value) and repr(other) == repr(value)
                    self.check(None if like else ("told", 0), told(3, kind, path, other, place))

    def test_a_truth_is_no_number(self):
        self.check(("told", 0), told(1, "there", "/a", 1, (1, 2)))
        self.check(("told", 0), told(1, "there", "/a", 0, (1, 1)))
        self.check(("told", 0), told(1, "text", "/a", ("u", True), (2, 1)))
        self.check(("told", 0), told(1, "text", "/a", ("t", False), (1, 2)))
        self.check(("told", 0), told(1, "there", "/a", True, (True, 2)))
        self.check(("told", 0), told(1, "there", "/a", False, (1, True)))
        self.check(("told", 0), told(1, "there", "/a", False, (False, 0)))

    def test_places_of_the_row_alone(self):
        for place in ((0, 1), (1, 0), (1, 4), (2, 4), (3, 1), (4, 4), (5, 1), None, (1,), [1, 2], (1, 2, 0), "12", ((), [])):
            self.check(("told", 0), told(1, "there", "/", True, place))
        self.check(None, told(1, "there", "/", True, NOWHERE), row=[])
        self.check(("told", 0), told(1, "there", "/", True, (1, 1)), row=[])

    def test_no_place_heard_ahead_is_greater(self):
        for first, last in itertools.product(range(10), range(10)):
            amiss = ("told", 1) if last < first else None
            read = told(2, "there", "/", True, PLACES[last])
            self.check(amiss, told(1, "there", "/", True, PLACES[first]), read)
            for bobs in BOBS:
                self.check(("told", 1) if PLACES[last] < bobs[4] else None, bobs, read)
        self.check(("told", 2), told(1, "there", "/", True, (4, 1)), told(2, "there", "/", True, (4, 2)),
                   told(3, "there", "/", True, (4, 1)))

    def test_nor_that_of_an_event(self):
        heard = [told(1, "there", "/a", False, (1, 1)), event("there", "/a", "made", (1, 2))]
        self.check(("told", 2), *heard, told(2, "there", "/", True, (1, 1)), laid=[1])
        self.check(None, *heard, told(2, "there", "/", True, (1, 2)), laid=[1])


class TestEvents(Judged):

    def test_each_watcher_by_its_first_event(self):
        firsts = {
            ("there", "/a"): [("made", 2)] * 2 + [("text", 4)] * 2 + [("gone", 8)] * 4,
            ("text", "/a"): [None] * 2 + [("text", 4)] * 2 + [("gone", 8)] * 4,
            ("kids", "/a"): [None] * 2 + [("kids", 5)] * 3 + [("kids", 7)] * 2 + [("gone", 8)],
            ("kids", "/"): [("kids", 2)] * 2 + [("kids", 8)] * 6,
            ("there", "/a/b"): [("made", 5)] * 5 + [("gone", 7)] * 2}
        for (kind, path), table in firsts.items():
            values = TestTold.VALUES.get((kind, path), [False] * 5 + [True] * 2)
            for k, first in enumerate(table):
                read = told(1, kind, path, values[k], PLACES[k])
                for word, at in itertools.product(("made", "text", "gone", "kids"), range(10)):
                    good = (word, at) == first
                    self.check(None if good else ("event", 1), read, event(kind, path, word, PLACES[at]), laid=[1])

    def test_one_thing_otherwise(self):
        read, good = told(1, "text", "/a", ("t", 0), (1, 2)), event("text", "/a", "text", (2, 1))
        self.check(None, read, good, laid=[1])
        for k, others in ((1, ["kids", "there"]), (2, ["/b", "/", "/a/b"]), (3, ["gone", "made", "kids", "", None, 1]),
                          (4, [(1, 2), (2, 2), NOWHERE, (4, 2), None, (2, True), [2, 1], (2,), (2, 1, 0), "x"])):
            for other in others:
                self.check(("event", 1), read, good[:k] + (other,) + good[k + 1:], laid=[1])

    def test_a_watcher_that_no_read_laid(self):
        good = event("there", "/a", "made", (1, 2))
        self.check(("event", 0), good, laid=[1])
        read = told(1, "there", "/a", False, NOWHERE)
        self.check(("event", 1), read, good)
        self.check(("event", 1), read, good, laid=[2, 0])
        self.check(("event", 0), good, read, laid=[1])
        self.check(("event", 1), told(1, "there", "/b", False, NOWHERE), good, laid=[1])
        self.check(("event", 1), told(1, "kids", "/", (), NOWHERE), good, laid=[1])
        self.check(None, read, good, laid=[5, 1])

    def test_of_text_and_kids_one_told_none_laid_none(self):
        for kind, word, place in (("text", "text", (2, 1)), ("kids", "kids", (2, 2))):
            self.check(("event", 1), told(1, kind, "/a", None, (1, 1)), event(kind, "/a", word, place), laid=[1])
        # An elder like one stays, so what comes is missed.
        self.check(("missed", 1), told(1, "text", "/a", ("u", 1), (4, 1)), told(2, "text", "/a", None, (4, 2)), laid=[1, 2])

    def test_told_once(self):
        heard = [told(1, "there", "/a", False, (1, 1)), event("there", "/a", "made", (1, 2))]
        self.check(None, *heard, laid=[1])
        self.check(("event", 2), *heard, event("there", "/a", "made", (1, 2)), laid=[1])
        self.check(("event", 2), *heard, event("there", "/a", "text", (2, 1)), laid=[1])
        heard.append(told(2, "there", "/a", True, (1, 3)))
        self.check(("event", 3), *heard, event("there", "/a", "text", (2, 1)), laid=[1])
        self.check(None, *heard, event("there", "/a", "text", (2, 1)), laid=[1, 2])

    def test_a_like_one_laid_again_counts_from_its_own_place(self):
        heard = [told(1, "text", "/a", ("t", 0), (1, 2)), told(2, "text", "/a", ("t", 0), (1, 3))]
        self.check(None, *heard, event("text", "/a", "text", (2, 1)), laid=[1, 2])
        self.check(("event", 3), *heard, event("text", "/a", "text", (2, 1)), event("text", "/a", "gone", (4, 2)), laid=[1, 2])

    def test_no_place_of_a_read_or_event_heard_ahead_is_greater(self):
        first, second = told(1, "there", "/a", False, NOWHERE), told(2, "kids", "/", (), NOWHERE)
        third = told(3, "there", "/a/b", False, NOWHERE)
        events = [event("there", "/a", "made", (1, 2)), event("kids", "/", "kids", (1, 2))]
        self.check(None, first, second, *events, laid=[1, 2])
        self.check(None, first, second, *events[::-1], laid=[1, 2])
        late = event("there", "/a/b", "made", (2, 2))
        self.check(None, first, second, third, *events, late, laid=[1, 2, 3])
        self.check(("event", 4), first, second, third, late, *events, laid=[1, 2, 3])
        # The places of answers don't matter.
        self.check(None, first, *BOBS, events[0], laid=[1])


class TestMissed(Judged):

    def test_a_read_at_a_place_at_or_behind_that_of_an_event(self):
        laid = told(1, "text", "/a", ("t", 0), (1, 2))
        for place in PLACES[2:]:
            read = told(2, "there", "/x", False, place)
            self.check(("missed", 1) if place >= (2, 1) else None, laid, read, laid=[1])
            self.check(None, laid, read)
            self.check(None, laid, event("text", "/a", "text", (2, 1)), *[read] * (place >= (2, 1)), laid=[1])

    def test_each_kind(self):
        for kind, path, value, at in (("there", "/a", False, 2), ("kids", "/", (), 2), ("there", "/a/b", False, 5)):
            read = told(1, kind, path, value, (1, 1))
            for place in PLACES[1:]:
                amiss = ("missed", 1) if place >= PLACES[at] else None
                self.check(amiss, read, told(2, "there", "/x", False, place), laid=[1])

    def test_by_a_like_read_too(self):
        read, other = told(1, "text", "/a", ("t", 0), (1, 2)), told(2, "text", "/a", ("u", 1), (2, 2))
        self.check(("missed", 1), read, other, laid=[1, 2])
        self.check(None, read, other, laid=[2])

    def test_of_the_same_number_told_goes_ahead(self):
        read = told(1, "text", "/a", ("t", 0), (1, 2))
        self.check(("told", 1), read, told(2, "there", "/x", True, (2, 1)), laid=[1])
        self.check(("told", 1), read, told(2, "there", "/x", False, (2, 9)), laid=[1])

    def test_number_by_number(self):
        read, missed = told(1, "text", "/a", ("t", 0), (1, 2)), told(2, "there", "/x", False, (2, 1))
        bad_answer, bad_event = BOBS[0][:3] + (None, (1, 1)), event("text", "/b", "text", (2, 1))
        self.check(("missed", 1), read, missed, bad_answer, bad_event, laid=[1])
        self.check(("answer", 1), read, bad_answer, missed, bad_event, laid=[1])
        self.check(("event", 1), read, bad_event, missed, bad_answer, laid=[1])
        self.check(("told", 0), told(9, "there", "/", False, (1, 1)), read, missed, laid=[1])
        self.check(("answer", 0), bad_answer, bad_event)

    def test_answers_and_events_miss_nothing(self):
        read = told(1, "text", "/a", ("t", 0), (1, 2))
        self.check(None, read, *BOBS, laid=[1])
        other = told(2, "there", "/a/b", False, (1, 3))
        self.check(None, read, other, event("there", "/a/b", "made", (2, 2)), laid=[1, 2])


class TestAlike(Judged):

    def test_asked_twice_and_by_names(self):
        heard = [told(1, "text", "/a", ("t", 0), (1, 2)), told(2, "there", "/x", False, (2, 1))]
        found = by_names(first_amiss, row=ROW, asker="bob", heard=heard, laid=[1])
        self.assertEqual(found, [("missed", 1)] * 24)
        self.assertEqual(by_names(first_amiss, row=ROW, asker="bob", heard=BOBS, laid=[]), [None] * 24)


class TestAreBeginnings(unittest.TestCase):

    def check(self, right, *rows):
        for order in itertools.permutations(rows):
            ahead = copy.deepcopy(list(order))
            handed = list(order)
            self.assertIs(are_beginnings(handed), right)
            self.assertEqual(handed, ahead)

    def test_none_one_and_beginnings(self):
        self.check(True)
        for many in range(10):
            self.check(True, ROW[:many])
        self.check(True, [], ROW[:3], ROW, ROW[:5])
        self.check(True, ROW, list(ROW), ROW[:1], ROW[:1])

    def test_rows_that_part(self):
        other = ROW[:3] + row_at((2, 1))
        self.check(False, ROW, other)
        self.check(False, ROW[:4], other)
        self.check(True, ROW[:3], other)
        self.check(False, [], ROW[:2], other, ROW)
        self.check(False, row_at((1, 1)), row_at((2, 1)))
        self.check(False, ROW[1:], ROW)
        self.check(False, [(place, ask(1)) for place in PLACES[1:3]], [(place, ask(2)) for place in PLACES[1:3]])

    def test_by_names(self):
        self.assertEqual(by_names(are_beginnings, rows=[ROW, ROW[:2]]), [True])


if __name__ == "__main__":
    unittest.main()
