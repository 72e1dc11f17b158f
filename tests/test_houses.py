"""Of points 10 and 16: houses as they are made, what they refuse, twins, beginning anew."""

import copy
import unittest

from tests.helper import by_names, spoilt, things
from tests.test_letters import LETTERS, a_letter
from tests.test_states import no_entries
from tests.woven import FIVE, ONE, THREE, ask, behaved, following, leading, numbered, row_at, told
from watchednodes.errors import NoEntry, NoHouse, NoLetter, NoLooks, NoMembers, NotHead
from watchednodes.houses import House, most_of
from watchednodes.paths import NOWHERE
from watchednodes.rows import state_of, told_by
from watchednodes.states import first_state

SEVEN = ("ann", "bea", "cyd", "dot", "eve", "fay", "gus")
NO_MEMBERS = [
    (), SEVEN + ("hal",), list(THREE), ["ann"], {"ann": 1}, {"ann"}, "ann", iter(THREE), None, ("ann", "ann"),
    ("ann", "bea", "ann"), ("ann", "bea", "bea"), SEVEN[:6] + ("ann",), SEVEN + ("ann",), ("ann", ""), ("Ann",),
    ("ann", "Bea"), ("ann", "bea-000001"), ("ann", "abcdefghi"), ("ann", None), ("ann", 1), (None, "ann"),
    ("ann", ("bea",)), ("ann", ["bea"]), (["ann"], ["bea"]), ("ann", {}), (THREE,), ("ann", b"bea"), (True, "ann"),
    ("ann", "bea "), ("/ann",), ("ann bea",)]
NO_LOOKS = ["", "All", "none ", "epochs", "more", "no", b"all", ("all",), ["all"], {"all"}]


class TestMostOf(unittest.TestCase):

    def test_one_to_seven(self):
        self.assertEqual([most_of(SEVEN[:many]) for many in range(1, 8)], [1, 2, 2, 3, 3, 4, 4])
        self.assertEqual(by_names(most_of, members=FIVE), [3])


class TestMade(unittest.TestCase):

    def test_all_that_is_told_of_a_new_house(self):
        for many in range(1, 8):
            for name in SEVEN[:many]:
                for house in (House(name, SEVEN[:many]), House(name, SEVEN[:many], looks="all"),
                              House(name, SEVEN[:many], looks="epoch"), House(name, SEVEN[:many], looks="none")):
                    self.assertEqual(told(house), {
                        "called": name, "members": SEVEN[:many], "role": "seeks", "head": None, "promised": 0,
                        "epoch": 0, "done": NOWHERE, "clock": 0, "row": [], "done_row": [], "synced": [],
                        "state": first_state(), "is_settled": False})
                    self.assertEqual((house.beat(), house.put_once(ask(1))), ([], []))

    def test_members_keep_their_order(self):
        members = ("zed", "ann", "moe")
        house = House("ann", members)
        self.assertEqual(house.members(), members)
        self.assertEqual([letter[2] for letter in house.seek()], ["zed", "moe"])

    def test_by_names(self):
        for looks in ("all", "epoch", "none"):
            for house in by_names(House, name="bea", members=THREE, looks=looks):
                self.assertEqual((house.called(), house.members()), ("bea", THREE))
        for house in by_names(House, name="bea", members=THREE):
            self.assertEqual((house.called(), house.members()), ("bea", THREE))
        with self.assertRaises(TypeError):
            House("bea", THREE, "all")

    def test_no_members(self):
        for members in NO_MEMBERS + things():
            for name in ("ann", "hal", "", None, [], things()[-1]):
                for looks in ("all", "no", []):
                    with self.assertRaises(NoMembers):
                        House(name, members, looks=looks)

    def test_no_house(self):
        for name in ["dot", "", "Ann", "ann ", "an", "annbea", "all", THREE, ("ann",), ["ann"], {"ann"}] + things():
            for looks in ("all", "no", []):
                with self.assertRaises(NoHouse) as caught:
                    House(name, THREE, looks=looks)
                self.assertIs(caught.exception.thing, name)

    def test_no_looks(self):
        for looks in NO_LOOKS + things():
            for members in (ONE, THREE, SEVEN):
                with self.assertRaises(NoLooks):
                    House("ann", members, looks=looks)


class TestMethods(unittest.TestCase):

    def test_by_names(self):
        head = leading(synced={"bea": NOWHERE})
        letters = head.twin().put(ask(1))
        self.assertEqual(len(letters), 1)
        self.assertEqual(head.twin().put(entry=ask(1)), letters)
        self.assertEqual(head.twin().put_once(entry=ask(1)), letters)
        lack = ("lack", "bea", "ann", 2)
        self.assertEqual(head.twin().take(letter=lack), head.twin().take(lack))
        self.assertIsNone(head.hear_of(asker="bob"))

    def test_kinds(self):
        for house in houses():
            kinds = {name: type(thing) for name, thing in told(house).items() if name != "head"}
            self.assertEqual(kinds, {
                "called": str, "members": tuple, "role": str, "promised": int, "epoch": int, "done": tuple,
                "clock": int, "row": list, "done_row": list, "synced": list, "state": tuple, "is_settled": bool})
            self.assertEqual([type(thing) for thing in house.state()], [dict, dict])
            for letters in (house.twin().seek(), house.twin().beat(), house.twin().put_once(ask(1))):
                self.assertIs(type(letters), list)


def opened(asker, limit, stamp=1):
    """An ask by which a session begins."""
    return ask(stamp, asker, ("open", limit))


ROW = [((1, 1), opened("bob", 9)), ((1, 2), ask(2, deed=("make", "/a", "t", True, False))), ((1, 3), opened("amy", 3))]


def seeking_one():
    house = following(row=ROW, done=(1, 2))
    house.seek()
    return house


def one_begun_anew():
    house = following(row=ROW, done=(1, 3))
    house.begin_anew()
    return house


def one_that_put():
    house = leading(row=ROW, synced={"bea": (1, 3)})
    house.put(ask(7))
    house.beat()
    return house


def unsettled_one():
    house = leading(members=FIVE, row=ROW, synced={"dot": (1, 2)})
    house.beat()
    return house


def one_alone():
    house = House("ann", ONE)
    house.seek()
    for _, entry in ROW:
        house.put(entry)
    return house


MAKERS = [
    lambda: House("bea", THREE), following, lambda: following(row=ROW, done=(1, 2)), seeking_one, one_begun_anew,
    leading, lambda: leading(row=ROW), lambda: leading(synced={"cyd": NOWHERE}), one_that_put, unsettled_one, one_alone]


def houses():
    """Houses of all roles, with rows and without."""
    return [make() for make in MAKERS]


class TestAllIsNew(unittest.TestCase):

    def test_what_is_told_is_the_askers_own(self):
        for house in houses():
            ahead = copy.deepcopy(told(house))
            self.assertEqual(told(house), ahead)
            for thing in (house.row(), house.done_row(), house.synced(), *house.state()):
                if isinstance(thing, dict):
                    thing["/x"] = ("", 0, 0, None)
                    thing.pop("/", None)
                else:
                    thing.append("x")
            house.row().reverse()
            house.done_row().clear()
            self.assertEqual(told(house), ahead)

    def test_letters_are_the_askers_own(self):
        for house in houses():
            for deed in (House.seek, House.beat):
                one, other = house.twin(), house.twin()
                letters = deed(one)
                self.assertEqual(deed(other), letters)
                letters.append("x")
                letters.clear()
                self.assertEqual(behaved(one), behaved(other))

    def test_a_house_alone(self):
        house = leading(members=ONE)
        entry = ask(1, deed=("open", 5))
        house.put(entry)
        row = house.row()
        self.assertEqual(row, [((2, 1), entry)])
        self.assertEqual(state_of(row), house.state())

    def test_state_is_that_of_the_done_row(self):
        for house in houses():
            self.assertEqual(house.state(), state_of(house.done_row()))
            self.assertEqual(house.told(), told_by(house.done_row()))
            for _, _, events in house.told():
                events.append("x")
            self.assertEqual(house.told(), told_by(house.done_row()))
            self.assertEqual(house.done_row(), [placed for placed in house.row() if placed[0] <= house.done()])

    def test_state_as_it_goes_on(self):
        house = following(row=ROW)
        for many in (0, 1, 1, 3):
            house.take(("done", "ann", "bea", 1, (1, many)))
            self.assertEqual(house.done_row(), ROW[:many])
            self.assertEqual(house.state(), state_of(ROW[:many]))
            self.assertEqual(house.twin().state(), state_of(ROW[:many]))

    def test_twins_tell_their_rows_by_themselves(self):
        for first in (0, 1, 2):
            house = following(row=ROW, done=(1, first))
            self.assertEqual(house.told(), told_by(ROW[:first]))
            other = house.twin()
            self.assertEqual(other.told(), told_by(ROW[:first]))
            for one in (house, other, house.twin()):
                one.take(("done", "ann", "bea", 1, (1, 3)))
                self.assertEqual((one.told(), one.state()), (told_by(ROW), state_of(ROW)))
            self.assertEqual(house.told(), told_by(ROW))

    def test_state_of_a_row_that_is_cut_where_it_was_done(self):
        house = following(row=ROW, done=(1, 3))
        self.assertEqual(house.state(), state_of(ROW))
        other = ((1, 2), opened("joe", 7))
        house.take(("lead", "cyd", "bea", 4))
        house.take(("sync", "cyd", "bea", 4, "cut", (1, 1), (other, ((1, 3), ask(3))), NOWHERE))
        self.assertEqual(house.row(), [ROW[0], other, ((1, 3), ask(3))])
        self.assertEqual(house.done(), (1, 3))
        self.assertEqual(house.state(), state_of(house.row()))


class TestTake(unittest.TestCase):

    def check(self, house, thing):
        ahead = behaved(house)
        with self.assertRaises(NoLetter):
            house.take(thing)
        self.assertEqual(behaved(house), ahead)

    def test_no_letter(self):
        for house in (House("bea", THREE), following(row=ROW), leading(name="bea", row=ROW, synced={"ann": NOWHERE})):
            for thing in things():
                self.check(house, thing)
            for letter in LETTERS:
                self.check(house, list(letter))
                self.check(house, letter + (None,))
                self.check(house, letter[:-1])

    def test_a_letter_that_is_spoilt(self):
        house = following(row=ROW)
        for word, kinds in (("promise", ("other", "other", "other", "number", "other")), ("took", ("other",) * 3)):
            for thing in spoilt(a_letter(word, (3, 3)), kinds):
                with self.assertRaises(NoLetter):
                    house.take(thing)
        self.assertEqual(behaved(house), behaved(following(row=ROW)))

    def test_not_to_it(self):
        for house in (House("cyd", THREE), House("ann", THREE), following(name="cyd", row=ROW), leading(row=ROW)):
            for letter in LETTERS:
                self.assertEqual(letter[1:3], ("ann", "bea"))
                self.check(house, letter)
                self.check(house, letter[:2] + ("dot",) + letter[3:])
                self.check(house, letter[:1] + ("bea", "dot") + letter[3:])

    def test_from_no_member(self):
        for house in (House("bea", THREE), following(row=ROW), leading(name="bea", row=ROW), House("bea", ("bea",))):
            for letter in LETTERS:
                for name in ("dot", "eve", "bob", "an"):
                    self.check(house, letter[:1] + (name,) + letter[2:])

    def test_from_each_member(self):
        for letter in LETTERS:
            for name in ("ann", "cyd", "dot", "eve"):
                self.assertIs(type(House("bea", FIVE).take(letter[:1] + (name,) + letter[2:])), list)


class TestPutRefused(unittest.TestCase):

    def settled(self):
        return leading(row=ROW, synced={"bea": (1, 3)})

    def test_no_entry_ahead_of_not_head(self):
        for house in houses():
            ahead = behaved(house)
            for thing in no_entries():
                with self.assertRaises(NoEntry):
                    house.put(thing)
                with self.assertRaises(NoEntry):
                    house.put_once(thing)
            self.assertEqual(behaved(house), ahead)

    def test_the_end_of_a_session_is_not_put_once(self):
        for house in houses() + [self.settled()]:
            ahead = behaved(house)
            with self.assertRaises(NoEntry):
                house.put_once(("end", "bob"))
            self.assertEqual(behaved(house), ahead)

    def test_not_head(self):
        many = 0
        for house in houses():
            if not house.is_settled():
                many += 1
                ahead = behaved(house)
                for entry in (ask(1), ask(9, "zed"), ("end", "bob")):
                    with self.assertRaises(NotHead):
                        house.put(entry)
                self.assertEqual(behaved(house), ahead)
        self.assertEqual(many, 8)

    def test_put_once_where_it_is_no_settled_head(self):
        for house in houses():
            if not house.is_settled():
                ahead = behaved(house)
                self.assertEqual(house.put_once(ask(99)), [])
                self.assertIsNone(house.hear_of("bob"))
                self.assertEqual(behaved(house), ahead)


def probes():
    """Deeds, several one behind the other, that show what a house keeps."""
    def beat(house):
        return [house.beat() for _ in range(6)]

    def hear(house):
        beats = [house.beat()]
        house.hear_of("bob")
        house.hear_of("amy")
        return beats + [house.beat() for _ in range(5)]

    def take(house, word, *rest):
        name, letters = house.called(), []
        for other in house.members():
            if other != name:
                letters.append(house.take((word, other, name, house.promised(), *rest)))
        return letters + [house.beat(), house.put_once(ask(50, "zed")), house.beat()]

    def seek(house):
        return [house.seek(), house.beat(), house.seek()]

    return [beat, hear, seek] + [
        lambda house, letter=letter: take(house, *letter) for letter in (
            ("promise", (1, 2)), ("promise", NOWHERE), ("synced", (1, 1)), ("took", (9, 9)), ("lead",), ("lack",),
            ("sync", "cut", (1, 1), (((1, 2), ask(7)),), (1, 1)), ("propose", (1, 3), (1, 4), ask(7)), ("done", (1, 3)),
            ("forward", ask(60, "zed")), ("touch", "bob"))]


class TestTwin(unittest.TestCase):

    def test_all_that_they_do_is_alike(self):
        for make in MAKERS:
            for probe in probes():
                house = make()
                other = house.twin()
                self.assertEqual(probe(house), probe(other))
                self.assertEqual(told(house), told(other))

    def test_what_one_does_the_other_does_not(self):
        for make in MAKERS:
            for one in probes():
                for other in probes():
                    house, right = make(), make()
                    one(house.twin())
                    self.assertEqual((other(house), told(house)), (other(right), told(right)))

    def test_tells_all_as_its_first_one(self):
        for house in houses():
            self.assertIsNot(house.twin(), house)
            self.assertIsInstance(house.twin(), House)
            self.assertEqual(behaved(house.twin()), behaved(house))
            self.assertEqual(behaved(house.twin().twin()), behaved(house))

    def test_goes_on_by_itself(self):
        for house in houses():
            ahead = behaved(house)
            other = house.twin()
            other.beat()
            other.hear_of("bob")
            for letter in (("promise", "ann", other.called(), other.promised(), NOWHERE),
                           ("synced", "cyd", other.called(), other.epoch(), (9, 9)),
                           ("took", "cyd", other.called(), other.epoch(), (9, 9)),
                           ("propose", "ann", other.called(), other.epoch(), (1, 3), (1, 4), ask(5)),
                           ("done", "ann", other.called(), other.epoch(), (9, 9))):
                if letter[1] != other.called() and letter[1] in other.members():
                    other.take(letter)
            if other.is_settled():
                other.put(ask(77))
            self.assertEqual(behaved(house), ahead)
            other.begin_anew()
            other.seek()
            self.assertEqual(behaved(house), ahead)
            again = behaved(other)
            house.begin_anew()
            house.seek()
            house.seek()
            self.assertEqual(behaved(other), again)

    def test_looks_stay(self):
        for looks, promises in (("all", False), ("epoch", True), ("none", True)):
            house = following(row=ROW, looks=looks).twin()
            self.assertEqual(house.take(("seek", "cyd", "bea", 9, 1, (1, 2))) != [], promises)
        for looks, promises in (("epoch", False), ("none", True)):
            house = following(row=ROW, looks=looks).twin()
            self.assertEqual(house.take(("seek", "cyd", "bea", 9, 0, (9, 9))) != [], promises)

    def test_what_it_heard_stays(self):
        house = leading(row=[((1, 1), opened("bob", 1)), ((1, 2), opened("amy", 1))], synced={"bea": (1, 2)})
        for _ in range(2):
            house.beat()
        house.hear_of("amy")
        other = house.twin()
        self.assertEqual([letter[6] for letter in other.beat() if letter[0] == "propose"], [("end", "bob")])
        self.assertEqual([letter[6] for letter in house.beat() if letter[0] == "propose"], [("end", "bob")])


class TestBeginAnew(unittest.TestCase):

    def test_what_is_kept_and_what_is_forgotten(self):
        for house in houses():
            ahead = told(house)
            self.assertIsNone(house.begin_anew())
            kept = {name: ahead[name] for name in ("called", "members", "promised", "epoch", "row")}
            self.assertEqual(told(house), {
                **kept, "role": "seeks", "head": None, "done": NOWHERE, "clock": 0, "done_row": [], "synced": [],
                "state": first_state(), "is_settled": False})
            again = behaved(house)
            house.begin_anew()
            self.assertEqual(behaved(house), again)

    def test_looks_are_kept(self):
        house = following(row=ROW, looks="none")
        house.begin_anew()
        self.assertEqual(house.take(("seek", "cyd", "bea", 9, 0, NOWHERE)), [("promise", "bea", "cyd", 9, (1, 3))])

    def test_letters_of_earlier_epochs_do_nothing_then(self):
        house = following(row=ROW, epoch=5, done=(1, 3))
        house.seek()
        house.begin_anew()
        ahead = behaved(house)
        for epoch in range(6):
            for letter in (("seek", "cyd", "bea", epoch, 9, (9, 9)), ("promise", "cyd", "bea", epoch, (9, 9)),
                           ("lead", "cyd", "bea", epoch), ("sync", "ann", "bea", epoch, "all", NOWHERE, (), NOWHERE),
                           ("lack", "cyd", "bea", epoch), ("synced", "cyd", "bea", epoch, (9, 9)),
                           ("propose", "ann", "bea", epoch, (1, 3), (1, 4), ask(5)),
                           ("took", "cyd", "bea", epoch, (9, 9)),
                           ("done", "ann", "bea", epoch, (9, 9)), ("forward", "cyd", "bea", epoch, ask(9)),
                           ("touch", "cyd", "bea", epoch, "bob")):
                self.assertEqual(house.take(letter), [])
        self.assertEqual(behaved(house), ahead)

    def test_it_seeks_by_none(self):
        house = House("bea", THREE)
        house.seek()
        house.begin_anew()
        self.assertEqual(house.take(("promise", "ann", "bea", 1, NOWHERE)), [])
        self.assertEqual((house.role(), house.epoch()), ("seeks", 0))

    def test_a_followers_row_stays_and_done_comes_again(self):
        house = following(row=ROW, done=(1, 3))
        house.begin_anew()
        self.assertEqual((house.row(), house.done_row()), (ROW, []))
        self.assertEqual(house.take(("done", "ann", "bea", 1, (1, 2))), [])
        self.assertEqual((house.role(), house.head(), house.done()), ("follows", "ann", (1, 2)))
        self.assertEqual(house.done_row(), ROW[:2])
        self.assertEqual(house.state(), state_of(ROW[:2]))
        house.begin_anew()
        letter = ("propose", "ann", "bea", 1, (1, 3), (1, 4), ask(5))
        self.assertEqual(house.take(letter), [("took", "bea", "ann", 1, (1, 4))])
        self.assertEqual((house.role(), house.head(), house.done()), ("follows", "ann", NOWHERE))

    def test_one_that_began_anew_follows_again_by_a_sync(self):
        house = following(row=ROW, done=(1, 3))
        house.begin_anew()
        sync = ("sync", "ann", "bea", 1, "all", NOWHERE, tuple(row_at(*numbered(1, 5))), (1, 5))
        self.assertEqual(house.take(sync), [("synced", "bea", "ann", 1, (1, 3))])
        self.assertEqual((house.role(), house.head(), house.row(), house.done()), ("follows", "ann", ROW, NOWHERE))

    def test_it_promises_the_head_again(self):
        house = following(row=ROW, done=(1, 3))
        house.begin_anew()
        self.assertEqual(house.take(("lead", "ann", "bea", 1)), [("promise", "bea", "ann", 1, (1, 3))])
        self.assertEqual((house.role(), house.head(), house.promised()), ("seeks", None, 1))

    def test_a_head_that_begins_anew_leads_no_more(self):
        house = leading(row=ROW, synced={"bea": (1, 3), "cyd": (1, 3)})
        house.put(ask(5))
        house.begin_anew()
        row = ROW + [((2, 1), ask(5))]
        self.assertEqual((house.role(), house.head(), house.is_settled(), house.row()), ("seeks", None, False, row))
        ahead = behaved(house)
        for letter in (("promise", "bea", "ann", 2, (1, 3)), ("synced", "bea", "ann", 2, (2, 1)),
                       ("took", "bea", "ann", 2, (2, 1)), ("lack", "bea", "ann", 2),
                       ("forward", "bea", "ann", 2, ask(6)), ("touch", "bea", "ann", 2, "bob")):
            self.assertEqual(house.take(letter), [])
        self.assertEqual(house.beat(), [])
        self.assertEqual(behaved(house), ahead)
        self.assertEqual(house.seek()[0], ("seek", "ann", "bea", 3, 2, (2, 1)))

    def test_it_heard_of_nobody(self):
        house = leading(row=ROW, synced={"bea": (1, 3)})
        for _ in range(4):
            house.beat()
        house.begin_anew()
        house.seek()
        house.take(("promise", "bea", "ann", 3, (1, 3)))
        house.take(("synced", "bea", "ann", 3, (1, 3)))
        self.assertEqual((house.clock(), house.done()), (0, (1, 3)))
        for k in range(4):
            self.assertEqual([letter[0] for letter in house.beat()], ["done", "lead"])
            self.assertEqual(house.clock(), k + 1)
        letters = house.beat()
        self.assertEqual([letter[6] for letter in letters if letter[0] == "propose"], [("end", "amy")])


if __name__ == "__main__":
    unittest.main()
