"""Point 18: readers."""

import copy
import unittest

from tests.helper import by_names, spoilt, things
from tests.test_houses import NO_LOOKS, NO_MEMBERS, SEVEN, opened
from tests.test_letters import LETTERS, NO_PLACES
from tests.test_paths import NO_PATHS, NO_WORDS
from tests.test_states import DEEDS, NO_DEEDS
from tests.woven import FIVE, ONE, THREE, ask, behaved, following, house_of, leading, told
from watchednodes.errors import NoHouse, NoLetter, NoLooks, NoMembers
from watchednodes.houses import House
from watchednodes.paths import NOWHERE
from watchednodes.readers import Reader
from watchednodes.rows import state_of
from watchednodes.states import first_state

ENTRIES = [
    opened("bob", 900), ask(2, deed=("make", "/a", "t", False, False)), opened("amy", 900),
    ask(3, deed=("put", "/a", "u", None)), ask(2, "amy", ("make", "/a/b", "", True, False)),
    ask(4, deed=("see", "/c", None)), ask(5, deed=("drop", "/a/b", None)), ask(6, deed=("drop", "/a", None))]
ROW = [((1, k + 1), entry) for k, entry in enumerate(ENTRIES)]
ANSWERS = [("ok", None), ("ok", "/a"), ("ok", None), ("ok", 1), ("ok", "/a/b"), ("no", "lacks"), ("ok", None), ("ok", None)]


def reader_at(many, *, row=ROW, met=("bob",), looks="all"):
    """bea, who follows ann with a row of which so many are done, and has met these."""
    reader = following(row=row, done=(1, many) if many else NOWHERE, made=Reader, looks=looks)
    for asker in met:
        reader.hear(("again", asker, (), NOWHERE))
    return reader


def head_at(*, row=(), members=THREE, met=("bob",), synced=None):
    """ann, who leads by epoch 2 with a row, and has met these."""
    reader = leading(row=row, members=members, made=Reader, synced=synced)
    for asker in met:
        reader.hear(("again", asker, (), NOWHERE))
    return reader


def settled(*, row=(), met=("bob",)):
    """ann, a settled head that most follow."""
    return head_at(row=row, met=met, synced={"cyd": row[-1][0] if row else NOWHERE})


def goes_on(reader, number, *, epoch=1):
    """What a reader tells when its head says that so many are done."""
    return reader.take(("done", "ann", "bea", epoch, (1, number)))


def shown(reader):
    """All that a reader tells of itself, and how its house goes on."""
    return (reader.watchers(), reader.waiting(), reader.met(), reader.state(), reader.done(), behaved(reader.house()))


def read(kind, path, *, asker="bob", number=1, watch=False, seen=NOWHERE):
    return ("read", asker, number, kind, path, watch, seen)


class TestMade(unittest.TestCase):

    def test_all_that_is_told_of_a_new_reader(self):
        for many in range(1, 8):
            for name in SEVEN[:many]:
                for reader in (Reader(name, SEVEN[:many]), Reader(name, SEVEN[:many], looks="none")):
                    self.assertEqual((reader.watchers(), reader.waiting(), reader.met()), ([], [], []))
                    self.assertEqual((reader.state(), reader.done(), reader.beat()), (first_state(), NOWHERE, []))
                    self.assertEqual(told(reader.house()), told(House(name, SEVEN[:many])))

    def test_looks_are_those_of_the_house(self):
        row = ROW[:3]
        for looks, promises in (("all", 0), ("epoch", 1), ("none", 1)):
            for one in (reader_at(0, row=row, looks=looks), reader_at(0, row=row, looks=looks).twin()):
                letters = one.take(("seek", "cyd", "bea", 9, 1, (1, 2)))
                self.assertEqual(letters, [("promise", "bea", "cyd", 9, (1, 3))] * promises)
        self.assertEqual(Reader("ann", THREE).seek(), House("ann", THREE).seek())

    def test_refused_like_a_house(self):
        for members in NO_MEMBERS + things():
            for name in ("ann", "hal", None, []):
                with self.assertRaises(NoMembers):
                    Reader(name, members, looks="no")
        for name in ["dot", "", "Ann", THREE, ["ann"], {"ann"}] + things():
            with self.assertRaises(NoHouse) as caught:
                Reader(name, THREE, looks="no")
            self.assertIs(caught.exception.thing, name)
        for looks in NO_LOOKS + things():
            with self.assertRaises(NoLooks):
                Reader("ann", THREE, looks=looks)

    def test_by_names(self):
        for reader in by_names(Reader, name="bea", members=FIVE, looks="epoch") + by_names(
                Reader, name="bea", members=FIVE):
            self.assertEqual((reader.house().called(), reader.house().members()), ("bea", FIVE))
        with self.assertRaises(TypeError):
            Reader("bea", FIVE, "all")
        reader = reader_at(2)
        for letter in (("touch", "bob"), read("text", "/a"), ask(2)):
            self.assertEqual(reader.twin().hear(letter=letter), reader.twin().hear(letter))
        done = ("done", "ann", "bea", 1, (1, 3))
        reader.hear(opened("amy", 900))
        self.assertEqual(reader.twin().take(letter=done), reader.twin().take(done))

    def test_the_house_is_a_twin_that_goes_on_by_itself(self):
        reader = reader_at(3)
        ahead = shown(reader)
        house = reader.house()
        self.assertIs(type(house), House)
        house.seek()
        house.begin_anew()
        house.take(("lead", "ann", "bea", 7))
        self.assertEqual(shown(reader), ahead)
        self.assertNotEqual(told(house), told(reader.house()))
        other = reader.house()
        reader.seek()
        self.assertEqual(behaved(other), ahead[-1])


class TestAsAHouse(unittest.TestCase):

    def test_it_says_what_its_house_says(self):
        reader, house = Reader("ann", THREE), House("ann", THREE)
        for letter in (None, ("promise", "cyd", "ann", 1, NOWHERE), ("synced", "cyd", "ann", 1, NOWHERE),
                       ("forward", "bea", "ann", 1, opened("bob", 3)), ("touch", "bea", "ann", 1, "bob"),
                       ("took", "cyd", "ann", 1, (1, 1)), ("lead", "cyd", "ann", 8), ("seek", "bea", "ann", 9, 1, (1, 1))):
            if letter is None:
                self.assertEqual(reader.seek(), house.seek())
            else:
                self.assertEqual(reader.take(letter), house.take(letter))
            self.assertEqual(reader.beat(), house.beat())
            self.assertEqual(behaved(reader.house()), behaved(house))
            self.assertEqual((reader.state(), reader.done()), (house.state(), house.done()))
        self.assertEqual(house.done(), (1, 1))

    def test_state_and_done(self):
        for many in range(len(ROW) + 1):
            reader = reader_at(many)
            self.assertEqual(reader.state(), state_of(ROW[:many]))
            self.assertEqual(reader.done(), ROW[many - 1][0] if many else NOWHERE)


class TestAgain(unittest.TestCase):

    def test_of_a_new_asker(self):
        reader = reader_at(3, met=())
        self.assertEqual(reader.met(), [])
        self.assertEqual(reader.hear(("again", "bob", (), NOWHERE)), [])
        self.assertEqual(reader.hear(("again", "amy", (), (1, 3))), [])
        self.assertEqual((reader.met(), reader.watchers(), reader.waiting()), (["amy", "bob"], [], []))
        self.assertEqual(reader.hear(("again", "bob", (), (1, 3))), [])
        self.assertEqual(reader.met(), ["amy", "bob"])

    def test_what_it_waits_for_is_let_go(self):
        for seen in ((1, 1), (1, 2)):
            reader = reader_at(1, met=("bob", "amy"))
            reader.hear(ENTRIES[1])
            reader.hear(ENTRIES[2])
            self.assertEqual(reader.waiting(), [("amy", 1), ("bob", 2)])
            reader.hear(("again", "bob", (), seen))
            self.assertEqual(reader.waiting(), [("amy", 1)])
            self.assertEqual(goes_on(reader, 3), [("answer", "amy", 1, ("ok", None), (1, 3))])

    def test_a_place_that_done_reached_and_others(self):
        for seen, is_late in ((NOWHERE, False), ((0, 9), False), ((1, 1), False), ((1, 3), False), ((1, 4), True),
                              ((2, 0), True), ((2, 1), True), ((1, 99), True)):
            reader = reader_at(3, met=("bob", "amy"))
            for asker in ("bob", "amy"):
                reader.hear(read("text", "/a", asker=asker, watch=True))
            letters = reader.hear(("again", "bob", (("there", "/a", (1, 3)),), seen))
            self.assertEqual(letters, [("late", "bob")] if is_late else [])
            self.assertEqual(reader.met(), ["amy"] if is_late else ["amy", "bob"])
            self.assertEqual(reader.watchers(), [("amy", "text", "/a")] + [("bob", "there", "/a")] * (not is_late))
            again = reader.hear(("again", "bob", (), (1, 3)))
            self.assertEqual((again, reader.met()), ([], ["amy", "bob"]))

    def test_late_where_it_was_never_met(self):
        reader = reader_at(0, met=())
        self.assertEqual(reader.hear(("again", "bob", (), (1, 1))), [("late", "bob")])
        self.assertEqual(reader.met(), [])

    def test_each_watcher_behind_its_own_place_up_to_done(self):
        for place, letters in (
                (NOWHERE, [("event", "bob", "text", "/a", "text", (1, 4))]),
                ((1, 3), [("event", "bob", "text", "/a", "text", (1, 4))]), ((1, 4), []), ((1, 7), []), ((3, 1), [])):
            for order in ("text", "kids"):
                reader = reader_at(7)
                watchers = (("text", "/a", place), ("kids", "/b", NOWHERE))
                told_now = reader.hear(("again", "bob", watchers if order == "text" else watchers[::-1], (1, 7)))
                self.assertEqual(told_now, letters)
                self.assertEqual(reader.watchers(), [("bob", "kids", "/b")] + [("bob", "text", "/a")] * (not letters))
        # What stands behind done isn't looked at.
        reader = reader_at(3)
        self.assertEqual(reader.hear(("again", "bob", (("text", "/a", (1, 2)),), (1, 3))), [])
        self.assertEqual(goes_on(reader, 4), [("event", "bob", "text", "/a", "text", (1, 4))])

    def test_those_met_are_told_in_the_order_of_the_row(self):
        reader = reader_at(8, met=("bob", "amy"))
        reader.hear(read("there", "/", watch=True))
        watchers = (("kids", "/", (1, 2)), ("text", "/a", (1, 4)), ("there", "/a/b", (1, 4)), ("text", "/a/b", (1, 5)),
                    ("there", "/a", NOWHERE), ("kids", "/a", (1, 6)), ("there", "/c", NOWHERE))
        self.assertEqual(reader.hear(("again", "bob", watchers, (1, 8))), [
            ("event", "bob", "there", "/a", "made", (1, 2)), ("event", "bob", "there", "/a/b", "made", (1, 5)),
            ("event", "bob", "text", "/a/b", "gone", (1, 7)), ("event", "bob", "kids", "/a", "kids", (1, 7)),
            ("event", "bob", "text", "/a", "gone", (1, 8)), ("event", "bob", "kids", "/", "kids", (1, 8))])
        self.assertEqual(reader.watchers(), [("bob", "there", "/c")])

    def test_of_like_ones_the_last_place_counts(self):
        for places, is_met in ((((1, 3), (1, 4)), False), (((1, 4), (1, 3)), True), ((NOWHERE, (1, 5)), False)):
            reader = reader_at(5)
            watchers = tuple([("text", "/a", place) for place in places])
            letters = reader.hear(("again", "bob", watchers, (1, 5)))
            self.assertEqual(letters, [("event", "bob", "text", "/a", "text", (1, 4))] * is_met)
            self.assertEqual(reader.watchers(), [("bob", "text", "/a")] * (not is_met))

    def test_elder_ones_are_let_go_others_stay(self):
        reader = reader_at(3, met=("bob", "amy"))
        for asker in ("bob", "amy"):
            reader.hear(read("kids", "/", asker=asker, watch=True))
        self.assertEqual(reader.hear(("again", "bob", (), NOWHERE)), [])
        self.assertEqual(reader.watchers(), [("amy", "kids", "/")])

    def test_behind_a_row_that_was_cut_where_it_was_done(self):
        reader = reader_at(4, looks="none")
        watchers = (("text", "/a", (1, 2)),)
        self.assertEqual(len(reader.hear(("again", "bob", watchers, NOWHERE))), 1)
        reader.take(("lead", "cyd", "bea", 4))
        reader.take(("sync", "cyd", "bea", 4, "cut", (1, 3), (((1, 4), ask(3, deed=("drop", "/a", 0))),), NOWHERE))
        self.assertEqual(reader.done(), (1, 4))
        self.assertEqual(reader.hear(("again", "bob", watchers, NOWHERE)),
                         [("event", "bob", "text", "/a", "gone", (1, 4))])


class TestAsk(unittest.TestCase):

    def test_of_one_not_met(self):
        for reader in (reader_at(3, met=("amy",)), settled(met=()), Reader("ann", THREE), head_at(met=("amy",))):
            ahead = shown(reader)
            for letter in (ask(1), ask(2), ask(9, deed=("close",))):
                self.assertEqual(reader.hear(letter), [("late", "bob")])
                self.assertEqual(shown(reader), ahead)

    def test_a_stamp_that_the_state_has(self):
        for many, stamp, answer, place in ((1, 1, ("ok", None), (1, 1)), (2, 2, ("ok", "/a"), (1, 2)),
                                           (5, 3, ("ok", 1), (1, 4)), (7, 5, ("ok", None), (1, 7)),
                                           (6, 4, ("no", "lacks"), (1, 6))):
            for deed in (("bring",), ENTRIES[0][3]):
                reader = reader_at(many)
                ahead = shown(reader)
                self.assertEqual(reader.hear(ask(stamp, deed=deed)), [("answer", "bob", stamp, answer, place)])
                self.assertEqual(shown(reader), ahead)

    def test_a_session_that_ended_is_answered_too(self):
        row = ROW[:2] + [((1, 3), ("end", "bob"))]
        self.assertEqual(reader_at(3, row=row).hear(ask(2)), [("answer", "bob", 2, ("ok", "/a"), (1, 2))])

    def test_an_answer_from_the_state_leaves_another_stamp_waiting(self):
        reader = reader_at(2)
        reader.hear(ENTRIES[3])
        self.assertEqual(reader.hear(ENTRIES[1]), [("answer", "bob", 2, ("ok", "/a"), (1, 2))])
        self.assertEqual(reader.waiting(), [("bob", 3)])

    def test_a_lesser_stamp_waits_and_isnt_put(self):
        reader = settled(row=ROW[:4])
        self.assertEqual(reader.done(), (1, 4))
        self.assertEqual(reader.hear(ask(2)), [])
        self.assertEqual((reader.waiting(), reader.house().row()), ([("bob", 2)], ROW[:4]))

    def test_a_new_one_at_a_settled_head(self):
        reader = settled(row=ROW[:4])
        self.assertEqual(reader.hear(ENTRIES[5]), [("propose", "ann", "cyd", 2, (1, 4), (2, 1), ENTRIES[5])])
        self.assertEqual(reader.waiting(), [("bob", 4)])
        for _ in range(2):
            self.assertEqual(reader.hear(ENTRIES[5]), [])
            self.assertEqual(reader.waiting(), [("bob", 4)])
        self.assertEqual(reader.house().row(), ROW[:4] + [((2, 1), ENTRIES[5])])
        self.assertEqual(reader.take(("took", "cyd", "ann", 2, (2, 1))),
                         [("done", "ann", "cyd", 2, (2, 1)), ("answer", "bob", 4, ("no", "lacks"), (2, 1))])
        self.assertEqual((reader.waiting(), reader.met()), ([], ["bob"]))

    def test_a_settled_head_hears_of_who_asks(self):
        row = [((1, 1), opened("bob", 1))]
        for k in (0, 1, 2, 3):
            reader = settled(row=row)
            for step in range(3):
                reader.beat()
                if step < k:
                    reader.hear(ask(2))
            self.assertEqual(("end", "bob") in [entry for _, entry in reader.house().row()], k < 2, k)

    def test_at_a_head_alone_it_is_answered_at_once(self):
        reader = head_at(members=ONE)
        self.assertEqual(reader.hear(opened("bob", 3)), [("answer", "bob", 1, ("ok", None), (2, 1))])
        self.assertEqual((reader.waiting(), reader.done()), ([], (2, 1)))

    def test_at_one_that_follows(self):
        reader = reader_at(4)
        for _ in range(2):
            self.assertEqual(reader.hear(ENTRIES[5]), [("forward", "bea", "ann", 1, ENTRIES[5])])
            self.assertEqual(reader.waiting(), [("bob", 4)])
        self.assertEqual(reader.house().row(), ROW)
        self.assertEqual(goes_on(reader, 6), [("answer", "bob", 4, ("no", "lacks"), (1, 6))])
        reader = following(members=FIVE, name="dot", epoch=5, head="eve", made=Reader)
        reader.hear(("again", "bob", (), NOWHERE))
        self.assertEqual(reader.hear(ask(1)), [("forward", "dot", "eve", 5, ask(1))])

    def test_at_any_other_one(self):
        seeks = reader_at(4)
        seeks.seek()
        for reader in (head_at(), Reader("ann", THREE), seeks):
            reader.hear(("again", "bob", (), NOWHERE))
            row = reader.house().row()
            self.assertEqual(reader.hear(ENTRIES[5]), [])
            self.assertEqual((reader.waiting(), reader.house().row()), ([("bob", 4)], row))

    def test_it_waits_with_the_last_stamp_alone(self):
        reader = reader_at(1)
        for k in (1, 3, 5):
            reader.hear(ENTRIES[k])
        self.assertEqual(reader.waiting(), [("bob", 4)])
        self.assertEqual(goes_on(reader, 8), [("answer", "bob", 4, ("no", "lacks"), (1, 6))])
        reader = reader_at(1)
        for k in (5, 3, 1):
            reader.hear(ENTRIES[k])
        self.assertEqual(reader.waiting(), [("bob", 2)])
        self.assertEqual(goes_on(reader, 8), [("answer", "bob", 2, ("ok", "/a"), (1, 2))])

    def test_answered_where_the_row_was_cut(self):
        reader = reader_at(4, looks="none")
        reader.hear(ask(6))
        reader.take(("lead", "cyd", "bea", 4))
        reader.take(("sync", "cyd", "bea", 4, "cut", (1, 3), (((1, 4), ask(6)),), NOWHERE))
        self.assertEqual(reader.waiting(), [("bob", 6)])
        self.assertEqual(reader.hear(ask(6)), [("answer", "bob", 6, ("ok", None), (1, 4))])
        self.assertEqual(reader.waiting(), [])


class TestRead(unittest.TestCase):

    def test_of_one_not_met_or_with_a_place_seen_that_done_didnt_reach(self):
        for asker, seen in (("joe", NOWHERE), ("amy", (1, 1)), ("bob", (1, 4)), ("bob", (2, 1)), ("joe", (1, 4))):
            reader = reader_at(3)
            ahead = shown(reader)
            for kind in ("text", "there", "kids"):
                self.assertEqual(reader.hear(read(kind, "/a", asker=asker, seen=seen, watch=True)), [("late", asker)])
            self.assertEqual(shown(reader), ahead)
        self.assertEqual(reader_at(3).hear(read("there", "/a", seen=(1, 3))), [("told", "bob", 1, True, (1, 3))])

    def test_each_kind_of_what_is_there_and_what_isnt(self):
        values = {
            0: {("text", "/"): ("", 0), ("there", "/"): True, ("kids", "/"): (), ("text", "/a"): None,
                ("there", "/a"): False, ("kids", "/a"): None},
            2: {("text", "/a"): ("t", 0), ("there", "/a"): True, ("kids", "/a"): (), ("kids", "/"): ("a",),
                ("there", "/a/b"): False},
            5: {("text", "/a"): ("u", 1), ("kids", "/a"): ("b",), ("text", "/a/b"): ("", 0), ("kids", "/"): ("a",)},
            8: {("text", "/a"): None, ("there", "/a"): False, ("kids", "/a"): None, ("kids", "/"): ()}}
        for many, table in values.items():
            for (kind, path), value in table.items():
                for watch in (False, True):
                    for number in (1, 7, 10 ** 20):
                        reader = reader_at(many)
                        place = (1, many) if many else NOWHERE
                        letters = reader.hear(read(kind, path, number=number, watch=watch, seen=place))
                        self.assertEqual(letters, [("told", "bob", number, value, place)])
                        self.assertIs(type(letters[0][3]), type(value))
                        is_laid = watch and (kind == "there" or value is not None)
                        self.assertEqual(reader.watchers(), [("bob", kind, path)] * is_laid)
                        self.assertEqual((reader.met(), reader.waiting()), (["bob"], []))

    def test_kids_are_sorted(self):
        row = ROW[:1] + [((1, k + 2), ask(k + 2, deed=("make", path, "", False, numbered))) for k, (path, numbered) in
                         enumerate([("/c", False), ("/b", True), ("/a", True), ("/b", False), ("/a/x", True)])]
        reader = reader_at(6, row=row)
        self.assertEqual(reader.hear(read("kids", "/")), [("told", "bob", 1, ("a-000002", "b", "b-000001", "c"), (1, 6))])

    def test_a_read_without_watch_lets_an_elder_watcher_stay(self):
        reader = reader_at(3)
        reader.hear(read("text", "/a", watch=True))
        reader.hear(read("text", "/a", number=2))
        self.assertEqual(reader.watchers(), [("bob", "text", "/a")])
        reader.hear(read("text", "/a", watch=True, number=3))
        self.assertEqual(reader.watchers(), [("bob", "text", "/a")])
        self.assertEqual(goes_on(reader, 8), [("event", "bob", "text", "/a", "text", (1, 4))])

    def test_at_every_role(self):
        for reader in (head_at(row=ROW), settled(row=ROW), Reader("ann", THREE)):
            reader.hear(("again", "bob", (), NOWHERE))
            value = reader.state()[0].get("/a") is not None
            self.assertEqual(reader.hear(read("there", "/a")), [("told", "bob", 1, value, reader.done())])


class TestTouch(unittest.TestCase):

    def test_at_a_settled_head(self):
        row = [((1, 1), opened("bob", 1))]
        for met in ((), ("bob",)):
            reader = settled(row=row, met=met)
            for _ in range(5):
                reader.beat()
                self.assertEqual(reader.hear(("touch", "bob")), [])
            self.assertEqual(reader.house().row(), row)
            reader.beat()
            self.assertEqual(reader.house().row(), row)
            reader.beat()
            self.assertEqual(reader.house().row(), row + [((2, 1), ("end", "bob"))])

    def test_at_one_that_follows(self):
        for met in ((), ("bob",)):
            reader = reader_at(2, met=met)
            ahead = shown(reader)
            self.assertEqual(reader.hear(("touch", "bob")), [("touch", "bea", "ann", 1, "bob")])
            self.assertEqual(shown(reader), ahead)
        reader = following(members=FIVE, name="dot", epoch=5, head="eve", made=Reader)
        self.assertEqual(reader.hear(("touch", "joe")), [("touch", "dot", "eve", 5, "joe")])

    def test_at_others(self):
        seeks = reader_at(2)
        seeks.seek()
        for reader in (Reader("ann", THREE), head_at(row=ROW), seeks):
            ahead = shown(reader)
            self.assertEqual(reader.hear(("touch", "bob")), [])
            self.assertEqual(shown(reader), ahead)


class TestGoingOn(unittest.TestCase):

    def ready(self, many=0):
        """bea with watchers of two askers, who wait."""
        reader = reader_at(many, met=("bob", "amy"))
        for asker in ("bob", "amy"):
            reader.hear(read("there", "/a", asker=asker, watch=True))
            reader.hear(read("kids", "/", asker=asker, watch=True))
            reader.hear(read("there", "/a/b", asker=asker, watch=True))
        reader.hear(ENTRIES[1])
        reader.hear(ENTRIES[4])
        return reader

    def told_at(self, number):
        events = {2: [("there", "/a", "made"), ("kids", "/", "kids")], 5: [("there", "/a/b", "made")]}
        letters = []
        for kind, path, word in events.get(number, []):
            letters.extend([("event", asker, kind, path, word, (1, number)) for asker in ("amy", "bob")])
        for k, asker, stamp in ((2, "bob", 2), (5, "amy", 2)):
            if k == number:
                letters.append(("answer", asker, stamp, ANSWERS[k - 1], (1, number)))
        return letters

    def test_entry_by_entry(self):
        reader = self.ready()
        for number in range(1, 9):
            self.assertEqual(goes_on(reader, number), self.told_at(number))
            self.assertEqual(goes_on(reader, number), [])
        self.assertEqual((reader.watchers(), reader.waiting(), reader.met()), ([], [], ["amy", "bob"]))

    def test_by_several_entries_at_once(self):
        for first in range(0, 9):
            for last in range(first, 9):
                reader = self.ready()
                goes_on(reader, first)
                letters = [letter for number in range(first + 1, last + 1) for letter in self.told_at(number)]
                self.assertEqual(goes_on(reader, last), letters)
                self.assertEqual(goes_on(reader, first), [])

    def test_other_stamps_are_not_answered(self):
        reader = reader_at(1)
        reader.hear(ask(9))
        self.assertEqual(goes_on(reader, 8), [])
        self.assertEqual(reader.waiting(), [("bob", 9)])

    def test_a_stamp_of_another_asker_is_not_answered(self):
        row = ROW[:3]
        reader = reader_at(1, row=row, met=("amy", "joe"))
        reader.hear(ask(2, "amy"))
        reader.hear(ask(1, "joe"))
        self.assertEqual(goes_on(reader, 3), [])

    def test_behind_the_letters_to_houses(self):
        reader = settled(row=ROW[:1])
        reader.hear(read("kids", "/", watch=True))
        reader.hear(ENTRIES[1])
        self.assertEqual(reader.take(("took", "cyd", "ann", 2, (2, 1))), [
            ("done", "ann", "cyd", 2, (2, 1)), ("event", "bob", "kids", "/", "kids", (2, 1)),
            ("answer", "bob", 2, ("ok", "/a"), (2, 1))])

    def test_by_a_sync(self):
        reader = Reader("bea", THREE)
        reader.hear(("again", "bob", (), NOWHERE))
        reader.hear(read("there", "/a", watch=True))
        reader.hear(ENTRIES[3])
        reader.take(("lead", "ann", "bea", 1))
        sync = ("sync", "ann", "bea", 1, "more", NOWHERE, tuple(ROW[:6]), (1, 5))
        self.assertEqual(reader.take(sync), [
            ("synced", "bea", "ann", 1, (1, 6)), ("event", "bob", "there", "/a", "made", (1, 2)),
            ("answer", "bob", 3, ("ok", 1), (1, 4))])
        self.assertEqual(reader.take(sync), [("synced", "bea", "ann", 1, (1, 6))])

    def test_by_seeking_alone(self):
        reader = head_at(members=ONE)
        reader.hear(opened("bob", 3))
        reader.hear(ask(2, deed=("make", "/a", "", False, False)))
        reader.begin_anew()
        reader.hear(("again", "bob", (("kids", "/", (2, 1)),), NOWHERE))
        reader.hear(ask(2))
        self.assertEqual((reader.waiting(), reader.watchers()), ([("bob", 2)], [("bob", "kids", "/")]))
        self.assertEqual(reader.seek(), [
            ("event", "bob", "kids", "/", "kids", (2, 2)), ("answer", "bob", 2, ("ok", "/a"), (2, 2))])

    def test_a_session_that_ends_by_a_beat(self):
        reader = head_at(members=ONE, met=("bob", "amy"))
        reader.hear(opened("bob", 1))
        reader.hear(ask(2, deed=("make", "/a", "", True, False)))
        reader.hear(read("there", "/a", asker="amy", watch=True))
        reader.hear(read("kids", "/", watch=True))
        self.assertEqual(reader.beat(), [])
        self.assertEqual(reader.beat(), [
            ("event", "amy", "there", "/a", "gone", (2, 3)), ("event", "bob", "kids", "/", "kids", (2, 3))])
        self.assertEqual(reader.state()[1]["bob"][0], None)

    def test_the_end_of_a_session_is_no_answer(self):
        row = ROW[:2] + [((1, 3), ("end", "bob"))]
        reader = reader_at(2, row=row)
        reader.hear(ask(3))
        self.assertEqual(goes_on(reader, 3), [])
        self.assertEqual(reader.waiting(), [("bob", 3)])


class TestNoLetter(unittest.TestCase):

    GOOD = [
        (("again", "bob", (("text", "/a", (1, 1)),), (1, 1)), ("other", "other", "things", "other")),
        (("again", "bob", (), NOWHERE), ("other", "other", "things", "other")),
        (("ask", "bob", 3, ("bring",)), ("other", "other", "stamp", "other")),
        (("read", "bob", 3, "kids", "/a", True, (1, 1)),
         ("other", "other", "stamp", "other", "other", "truth", "other")),
        (("touch", "bob"), ("other", "other"))]

    def check(self, *letters):
        reader = reader_at(3)
        reader.hear(read("text", "/a", watch=True))
        reader.hear(ENTRIES[4])
        ahead = shown(reader)
        for letter in letters:
            with self.assertRaises(NoLetter, msg=repr(letter)):
                reader.hear(letter)
        self.assertEqual(shown(reader), ahead)

    def test_good_ones(self):
        for letter, _ in self.GOOD:
            before = copy.deepcopy(letter)
            self.assertIs(type(reader_at(3).hear(letter)), list)
            self.assertEqual(letter, before)

    def test_of_anything(self):
        self.check(*things())
        self.check(*LETTERS)
        self.check("touch", ["touch", "bob"], ("touch",), (), ("late", "bob"), ("end", "bob"), ("Touch", "bob"),
                   ("answer", "bob", 1, ("ok", None), (1, 1)), ("told", "bob", 1, None, (1, 1)))

    def test_one_thing_put_otherwise(self):
        for letter, kinds in self.GOOD:
            self.check(*spoilt(letter, kinds))

    def test_askers(self):
        for letter, _ in self.GOOD:
            self.check(*[letter[:1] + (word,) + letter[2:] for word in NO_WORDS])

    def test_places(self):
        self.check(*[("again", "bob", (), place) for place in NO_PLACES])
        self.check(*[("again", "bob", (("text", "/a", place),), (1, 1)) for place in NO_PLACES])
        self.check(*[read("text", "/a", seen=place) for place in NO_PLACES])

    def test_kinds_and_paths(self):
        for kind in ("", "Text", "made", "textthere", b"text", ["text"], ("text",), None, 0):
            self.check(read(kind, "/a"), ("again", "bob", ((kind, "/a", (1, 1)),), (1, 1)))
        for path in NO_PATHS:
            self.check(read("text", path), ("again", "bob", (("text", path, (1, 1)),), (1, 1)))

    def test_watchers(self):
        good = ("text", "/a", (1, 1))
        wrong = spoilt(good, ("other", "other", "other")) + things()
        for watcher in wrong:
            self.check(("again", "bob", (watcher,), (1, 1)), ("again", "bob", (good, watcher), (1, 1)),
                       ("again", "bob", (watcher, good), (1, 1)))
        self.check(("again", "bob", [good], (1, 1)), ("again", "bob", {good}, (1, 1)), ("again", "bob", good, (1, 1)),
                   ("again", "bob", (("bob",) + good,), (1, 1)), ("again", "bob", (("bob", "text", "/a"),), (1, 1)))

    def test_stamps_numbers_truths(self):
        for number in (0, -1, True, False, None, 1.0, "1", (1,), [1]):
            self.check(("ask", "bob", number, ("bring",)), read("text", "/a", number=number))
        for watch in (0, 1, None, "yes", "", (True,), [True]):
            self.check(read("text", "/a", watch=watch))

    def test_deeds(self):
        self.check(*[ask(3, deed=deed) for deed in NO_DEEDS + things()])
        for deed in DEEDS:
            self.assertEqual(reader_at(4).hear(ask(9, deed=deed)), [("forward", "bea", "ann", 1, ask(9, deed=deed))])

    def test_take(self):
        reader = reader_at(3)
        reader.hear(read("text", "/a", watch=True))
        reader.hear(ENTRIES[4])
        ahead = shown(reader)
        wrong = things() + [letter for letter, _ in self.GOOD] + spoilt(("done", "ann", "bea", 1, (1, 8)), (
            "other", "other", "other", "number", "other"))
        for letter in LETTERS + [("done", "ann", "bea", 1, (1, 8))]:
            wrong.extend([list(letter), letter + (None,), letter[:-1], letter[:2] + ("cyd",) + letter[3:],
                          letter[:1] + ("dot",) + letter[2:], letter[:1] + ("bea",) + letter[2:]])
        for letter in wrong:
            with self.assertRaises(NoLetter, msg=repr(letter)):
                reader.take(letter)
        self.assertEqual(shown(reader), ahead)


class TestBeginAnew(unittest.TestCase):

    def test_it_has_met_nobody_keeps_no_watchers_nobody_waits(self):
        reader = reader_at(3, met=("bob", "amy"))
        reader.hear(read("text", "/a", watch=True))
        reader.hear(ENTRIES[4])
        house = reader.house()
        self.assertIsNone(reader.begin_anew())
        self.assertIsNone(house.begin_anew())
        self.assertEqual((reader.watchers(), reader.waiting(), reader.met()), ([], [], []))
        self.assertEqual((reader.done(), reader.state()), (NOWHERE, first_state()))
        self.assertEqual(behaved(reader.house()), behaved(house))
        self.assertEqual(reader.hear(read("text", "/a")), [("late", "bob")])
        reader.take(("sync", "ann", "bea", 1, "all", NOWHERE, (), NOWHERE))
        self.assertEqual(goes_on(reader, 8), [])


class TestTold(unittest.TestCase):

    def ready(self):
        reader = reader_at(1, met=("joe", "bob", "amy"))
        for asker in ("joe", "bob", "amy"):
            for kind in ("there", "kids"):
                reader.hear(read(kind, "/", asker=asker, watch=True))
            reader.hear(ask(7, asker))
        return reader

    def test_sorted(self):
        reader = self.ready()
        self.assertEqual(reader.met(), ["amy", "bob", "joe"])
        self.assertEqual(reader.waiting(), [("amy", 7), ("bob", 7), ("joe", 7)])
        self.assertEqual(reader.watchers(), [
            (asker, kind, "/") for asker in ("amy", "bob", "joe") for kind in ("kids", "there")])

    def test_what_is_told_is_new(self):
        reader = self.ready()
        ahead = shown(reader)
        for thing in (reader.met(), reader.waiting(), reader.watchers()):
            self.assertIs(type(thing), list)
            thing.clear()
        for thing in reader.state():
            self.assertIs(type(thing), dict)
            thing.clear()
        for letter in (("again", "bob", (("kids", "/", NOWHERE),), NOWHERE), ask(8), ("touch", "bob"), read("text", "/")):
            reader.twin().hear(letter).clear()
        self.assertEqual(shown(reader), ahead)

    def test_letters_told_are_the_askers_own(self):
        for deed in (Reader.seek, Reader.beat, lambda one: one.hear(ENTRIES[1]), lambda one: goes_on(one, 8)):
            one, other = self.ready(), self.ready()
            letters = deed(one)
            self.assertEqual(deed(other), letters)
            letters.append("x")
            letters.clear()
            self.assertEqual(shown(one), shown(other))

    def test_twin(self):
        for many in (0, 1, 3, 8):
            reader = reader_at(many, met=("bob", "amy"))
            reader.hear(read("there", "/x", watch=True))
            reader.hear(ask(9))
            ahead = shown(reader)
            other = reader.twin()
            self.assertIs(type(other), Reader)
            self.assertEqual(shown(other), ahead)
            other.hear(read("kids", "/", watch=True))
            other.hear(("again", "joe", (), NOWHERE))
            other.hear(ask(3, "amy"))
            other.take(("lead", "cyd", "bea", 8))
            self.assertEqual(shown(reader), ahead)
            self.assertNotEqual(shown(other), ahead)
            other = reader.twin()
            reader.begin_anew()
            self.assertEqual(shown(other), ahead)
            self.assertEqual(house_of(other).called(), "bea")

    def test_asked_twice_alike(self):
        reader = self.ready()
        self.assertEqual(shown(reader), shown(reader))


if __name__ == "__main__":
    unittest.main()
