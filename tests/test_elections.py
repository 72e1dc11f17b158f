"""Of points 11 and 12: seeking, promising, leading."""

import unittest

from tests.woven import FIVE, ONE, THREE, ask, behaved, following, leading, numbered, row_at, told
from watchednodes.houses import House
from watchednodes.paths import NOWHERE

ROW = row_at((1, 1), (1, 2), (3, 1))
SEVEN = FIVE + ("fay", "gus")


class TestSeek(unittest.TestCase):

    def test_a_new_house(self):
        house = House("cyd", FIVE)
        for epoch in (1, 2, 3):
            self.assertEqual(house.seek(), [
                ("seek", "cyd", "ann", epoch, 0, NOWHERE), ("seek", "cyd", "bea", epoch, 0, NOWHERE),
                ("seek", "cyd", "dot", epoch, 0, NOWHERE), ("seek", "cyd", "eve", epoch, 0, NOWHERE)])
            self.assertEqual((house.role(), house.head(), house.promised(), house.epoch()), ("seeks", None, epoch, 0))

    def test_one_that_follows(self):
        house = following(row=ROW, epoch=4, done=(1, 2))
        self.assertEqual(house.seek(), [("seek", "bea", "ann", 5, 4, (3, 1)), ("seek", "bea", "cyd", 5, 4, (3, 1))])
        self.assertEqual((house.role(), house.head(), house.promised(), house.epoch()), ("seeks", None, 5, 4))
        self.assertEqual((house.row(), house.done()), (ROW, (1, 2)))

    def test_one_that_leads(self):
        house = leading(row=ROW, epoch=4, synced={"bea": (3, 1)})
        house.beat()
        house.put(ask(9))
        self.assertEqual(house.seek(), [("seek", "ann", "bea", 5, 4, (4, 1)), ("seek", "ann", "cyd", 5, 4, (4, 1))])
        self.assertEqual(
            (house.role(), house.head(), house.synced(), house.clock(), house.is_settled()),
            ("seeks", None, [], 0, False))
        self.assertEqual((house.beat(), house.put_once(ask(10))), ([], []))

    def test_one_that_promised_more_than_its_epoch(self):
        house = following(row=ROW, epoch=4)
        house.take(("seek", "cyd", "bea", 9, 0, NOWHERE))
        self.assertEqual(house.seek()[0], ("seek", "bea", "ann", 10, 4, (3, 1)))

    def test_a_house_of_one_leads_at_once(self):
        house = House("ann", ONE)
        for epoch in (1, 2, 3):
            self.assertEqual(house.seek(), [])
            self.assertEqual(
                (house.role(), house.head(), house.promised(), house.epoch(), house.synced(), house.is_settled()),
                ("leads", "ann", epoch, epoch, ["ann"], True))
        self.assertEqual(house.put(ask(1)), [])
        self.assertEqual((house.row(), house.done()), ([((3, 1), ask(1))], (3, 1)))
        house.begin_anew()
        self.assertEqual((house.done(), house.role()), (NOWHERE, "seeks"))
        self.assertEqual(house.seek(), [])
        self.assertEqual((house.done(), house.epoch(), house.done_row()), ((3, 1), 4, [((3, 1), ask(1))]))

    def test_a_house_of_two_does_not(self):
        house = House("ann", ("ann", "bea"))
        self.assertEqual(house.seek(), [("seek", "ann", "bea", 1, 0, NOWHERE)])
        self.assertEqual(house.role(), "seeks")
        self.assertEqual(len(house.take(("promise", "bea", "ann", 1, NOWHERE))), 1)
        self.assertEqual((house.role(), house.is_settled()), ("leads", False))


class TestTakeSeek(unittest.TestCase):

    def check(self, house, letter, promises):
        last = house.row()[-1][0] if house.row() else NOWHERE
        ahead = told(house)
        answer = [("promise", house.called(), letter[1], letter[3], last)]
        self.assertEqual(house.take(letter), answer if promises else [], letter)
        after = told(house)
        self.assertEqual((after["promised"], after["role"], after["head"]), (letter[3], "seeks", None))
        self.assertEqual((after["clock"], after["synced"], after["is_settled"]), (0, [], False))
        for name in ("epoch", "row", "done", "done_row", "state"):
            self.assertEqual(after[name], ahead[name])

    def test_a_new_house(self):
        for looks in ("all", "epoch", "none"):
            for epoch in (1, 2, 10 ** 29):
                self.check(House("bea", THREE, looks=looks), ("seek", "cyd", "bea", epoch, 0, NOWHERE), True)

    def test_by_each_of_the_looks(self):
        for epoch, last, right in (
                (4, (3, 1), "all epoch none"), (4, (3, 2), "all epoch none"), (4, (4, 0), "all epoch none"),
                (4, (3, 0), "epoch none"), (4, (1, 9), "epoch none"), (4, NOWHERE, "epoch none"),
                (5, NOWHERE, "all epoch none"), (5, (1, 1), "all epoch none"), (5, (3, 1), "all epoch none"),
                (3, (3, 1), "none"), (3, (9, 9), "none"), (0, NOWHERE, "none"), (0, (9, 9), "none")):
            for looks in ("all", "epoch", "none"):
                house = following(row=ROW, epoch=4, done=(1, 2), looks=looks)
                self.check(house, ("seek", "cyd", "bea", 6, epoch, last), looks in right.split())

    def test_from_its_head_and_from_others(self):
        for other in ("ann", "cyd", "eve"):
            self.check(following(members=FIVE, row=ROW), ("seek", other, "bea", 2, 1, (3, 1)), True)

    def test_an_epoch_that_is_no_greater(self):
        seeking = following(row=ROW, epoch=4)
        seeking.seek()
        promised = following(row=ROW, epoch=2)
        promised.take(("lead", "cyd", "bea", 5))
        for house in (seeking, promised, following(row=ROW, epoch=5), leading(name="bea", epoch=5)):
            ahead = behaved(house)
            for epoch in range(6):
                for other in ("ann", "cyd"):
                    self.assertEqual(house.take(("seek", other, "bea", epoch, 9, (9, 9))), [])
            self.assertEqual(behaved(house), ahead)
            self.assertEqual(len(house.take(("seek", "cyd", "bea", 6, 9, (9, 9)))), 1)

    def test_told_twice(self):
        house = House("bea", THREE)
        letter = ("seek", "ann", "bea", 1, 0, NOWHERE)
        self.check(house, letter, True)
        self.assertEqual(house.take(letter), [])
        self.assertEqual(house.take(("seek", "cyd", "bea", 1, 0, NOWHERE)), [])

    def test_what_it_does_not_promise_it_does_not_promise_others(self):
        house = following(row=ROW, epoch=4)
        self.check(house, ("seek", "cyd", "bea", 6, 3, (3, 1)), False)
        self.assertEqual(house.take(("seek", "ann", "bea", 6, 9, (9, 9))), [])
        self.check(house, ("seek", "ann", "bea", 7, 4, (3, 1)), True)

    def test_one_that_leads_gives_way(self):
        for promises, last in ((True, (4, 1)), (False, (3, 1))):
            house = leading(row=ROW, epoch=4, synced={"bea": (3, 1)})
            house.put(ask(9))
            house.beat()
            self.check(house, ("seek", "cyd", "ann", 5, 4, last), promises)
            self.assertEqual(house.take(("took", "bea", "ann", 4, (4, 1))), [])
            self.assertEqual((house.beat(), house.done()), ([], (3, 1)))

    def test_it_seeks_by_none_then(self):
        house = House("bea", THREE)
        house.seek()
        self.check(house, ("seek", "cyd", "bea", 2, 0, NOWHERE), True)
        for epoch in (1, 2):
            self.assertEqual(house.take(("promise", "ann", "bea", epoch, NOWHERE)), [])
        self.assertEqual((house.role(), house.epoch()), ("seeks", 0))


class TestTakePromise(unittest.TestCase):

    def seeking(self, members=FIVE, epoch=3):
        house = following(name="ann", members=members, row=ROW, epoch=epoch - 1, head="bea", done=(1, 2))
        house.seek()
        return house

    def test_it_leads_as_soon_as_most_have_promised(self):
        for many in range(2, 8):
            members = SEVEN[:many]
            house = self.seeking(members)
            for k, other in enumerate(members[1:]):
                self.assertEqual((house.role(), house.epoch(), house.head()), ("seeks", 2, None))
                letters = house.take(("promise", other, "ann", 3, (3, 1)))
                if k + 2 > many // 2:
                    break
                self.assertEqual(letters, [])
            self.assertEqual(letters, [
                ("sync", "ann", name, 3, "more", (3, 1), (), (1, 2)) for name in members[1:k + 2]])
            self.assertEqual(
                (house.role(), house.epoch(), house.head(), house.promised(), house.synced(), house.clock()),
                ("leads", 3, "ann", 3, ["ann"], 0))
            self.assertEqual((house.row(), house.done(), house.is_settled()), (ROW, (1, 2), False))

    def test_syncs_stand_in_the_members_order(self):
        house = House("cyd", SEVEN)
        house.seek()
        for other in ("gus", "bea", "fay"):
            letters = house.take(("promise", other, "cyd", 1, NOWHERE))
        self.assertEqual(letters, [
            ("sync", "cyd", other, 1, "more", NOWHERE, (), NOWHERE) for other in ("bea", "fay", "gus")])

    def test_told_twice_it_counts_once(self):
        house = self.seeking()
        for _ in range(5):
            self.assertEqual(house.take(("promise", "dot", "ann", 3, (3, 1))), [])
        self.assertEqual(house.role(), "seeks")
        self.assertEqual(len(house.take(("promise", "eve", "ann", 3, (3, 1)))), 2)

    def test_the_last_of_two_of_one_counts(self):
        house = self.seeking()
        house.take(("promise", "dot", "ann", 3, NOWHERE))
        house.take(("promise", "dot", "ann", 3, (1, 2)))
        self.assertEqual(house.take(("promise", "eve", "ann", 3, (3, 1))), [
            ("sync", "ann", "dot", 3, "more", (1, 2), tuple(ROW[2:]), (1, 2)),
            ("sync", "ann", "eve", 3, "more", (3, 1), (), (1, 2))])

    def test_of_an_epoch_that_it_does_not_seek_by(self):
        for house in (self.seeking(), following(name="ann", epoch=3, head="bea"), House("ann", FIVE)):
            ahead = behaved(house)
            for epoch in (0, 1, 2, 4, 10 ** 29):
                for other in ("bea", "cyd"):
                    self.assertEqual(house.take(("promise", other, "ann", epoch, (3, 1))), [])
            self.assertEqual(behaved(house), ahead)

    def test_of_what_it_promised_by_another_ones_letter(self):
        house = House("ann", THREE)
        house.take(("seek", "bea", "ann", 3, 0, NOWHERE))
        ahead = behaved(house)
        self.assertEqual(house.take(("promise", "cyd", "ann", 3, NOWHERE)), [])
        self.assertEqual(behaved(house), ahead)

    def test_one_that_comes_late(self):
        house = self.seeking()
        house.take(("promise", "bea", "ann", 3, (3, 1)))
        house.seek()
        self.assertEqual(house.take(("promise", "cyd", "ann", 3, (3, 1))), [])
        self.assertEqual(house.take(("promise", "cyd", "ann", 4, (3, 1))), [])
        self.assertEqual((house.role(), house.promised(), house.epoch()), ("seeks", 4, 2))
        self.assertEqual(len(house.take(("promise", "bea", "ann", 4, (3, 1)))), 2)
        self.assertEqual((house.role(), house.epoch()), ("leads", 4))

    def test_one_that_follows_seeks_by_none(self):
        house = self.seeking(THREE)
        house.take(("sync", "cyd", "ann", 3, "more", (3, 1), (), NOWHERE))
        self.assertEqual((house.role(), house.epoch()), ("follows", 3))
        self.assertEqual(house.take(("promise", "bea", "ann", 3, (3, 1))), [])
        self.assertEqual((house.role(), house.head()), ("follows", "cyd"))

    def test_when_it_leads_already(self):
        house = leading(members=FIVE, row=ROW, epoch=4, synced={"bea": (3, 1), "dot": (3, 1)})
        self.assertEqual(house.take(("promise", "eve", "ann", 4, (1, 2))), [
            ("sync", "ann", "eve", 4, "more", (1, 2), tuple(ROW[2:]), (3, 1))])
        self.assertEqual((house.synced(), house.is_settled(), house.role()), (["ann", "bea", "dot"], True, "leads"))
        self.assertEqual([letter[:3] for letter in house.beat()], [
            ("done", "ann", "bea"), ("lead", "ann", "cyd"), ("done", "ann", "dot"), ("sync", "ann", "eve")])

    def test_of_a_synced_one_when_it_leads(self):
        house = leading(members=FIVE, row=ROW, epoch=4, synced={"bea": (3, 1), "dot": (3, 1)})
        house.put(ask(9))
        house.take(("took", "dot", "ann", 4, (4, 1)))
        for last, way, base, things in (
                ((3, 1), "more", (3, 1), ((4, 1),)), ((1, 3), "cut", (1, 2), ((3, 1), (4, 1))),
                (NOWHERE, "more", NOWHERE, ((1, 1), (1, 2), (3, 1), (4, 1)))):
            letters = house.take(("promise", "dot", "ann", 4, last))
            self.assertEqual([letter[:6] + letter[7:] for letter in letters], [
                ("sync", "ann", "dot", 4, way, base, (3, 1))])
            self.assertEqual(tuple([place for place, _ in letters[0][6]]), things)
            self.assertEqual((house.synced(), house.is_settled(), house.role()), (["ann", "bea"], False, "leads"))
        self.assertEqual(house.take(("took", "dot", "ann", 4, (4, 1))), [])
        self.assertEqual(house.take(("took", "bea", "ann", 4, (4, 1))), [])
        self.assertEqual(house.done(), (3, 1))
        # What dot took ahead is forgotten, so bea alone took the last thing.
        self.assertEqual(house.take(("synced", "dot", "ann", 4, (3, 1))), [])
        self.assertEqual((house.is_settled(), house.done()), (True, (3, 1)))
        self.assertEqual(house.take(("took", "dot", "ann", 4, (4, 1))), [
            ("done", "ann", "bea", 4, (4, 1)), ("done", "ann", "dot", 4, (4, 1))])

    def test_of_an_elder_or_later_epoch_when_it_leads(self):
        house = leading(members=FIVE, row=ROW, epoch=4, synced={"bea": (3, 1), "dot": (3, 1)})
        ahead = behaved(house)
        for epoch in (0, 1, 3, 5, 9):
            for other in ("bea", "cyd"):
                self.assertEqual(house.take(("promise", other, "ann", epoch, NOWHERE)), [])
        self.assertEqual(behaved(house), ahead)


class TestTakeLead(unittest.TestCase):

    def check(self, house, letter):
        last = house.row()[-1][0] if house.row() else NOWHERE
        kept = (house.epoch(), house.row(), house.done())
        self.assertEqual(house.take(letter), [("promise", house.called(), letter[1], letter[3], last)])
        self.assertEqual((house.promised(), house.role(), house.head(), house.clock(), house.synced()),
                         (letter[3], "seeks", None, 0, []))
        self.assertEqual((house.epoch(), house.row(), house.done()), kept)

    def test_a_greater_epoch(self):
        seeking = following(row=ROW, epoch=4)
        seeking.seek()
        for house in (House("bea", THREE), following(row=ROW, epoch=5, done=(1, 1)), seeking,
                      leading(name="bea", row=ROW, epoch=4, synced={"cyd": (3, 1)}), following(row=ROW, looks="none")):
            for epoch in (6, 8, 10 ** 29):
                self.check(house.twin(), ("lead", "cyd", "bea", epoch))

    def test_whatever_it_looks_at(self):
        for looks in ("all", "epoch", "none"):
            self.check(following(row=ROW, epoch=5, looks=looks), ("lead", "cyd", "bea", 6))

    def test_what_it_promised_ahead(self):
        house = following(row=ROW, epoch=4)
        house.take(("seek", "cyd", "bea", 7, 9, NOWHERE))
        for _ in range(3):
            self.check(house, ("lead", "cyd", "bea", 7))
        self.check(house, ("lead", "ann", "bea", 7))

    def test_what_it_seeks_by(self):
        house = following(row=ROW, epoch=4)
        house.seek()
        self.check(house, ("lead", "cyd", "bea", 5))
        self.assertEqual(house.take(("promise", "ann", "bea", 5, NOWHERE)), [])
        self.assertEqual(house.role(), "seeks")

    def test_one_that_leads_or_follows_by_it(self):
        for house in (following(row=ROW, epoch=4), leading(name="bea", row=ROW, epoch=4, synced={"cyd": (3, 1)})):
            ahead = behaved(house)
            self.assertEqual(house.take(("lead", "cyd", "bea", 4)), [])
            self.assertEqual(house.take(("lead", "ann", "bea", 4)), [])
            self.assertEqual(behaved(house), ahead)

    def test_a_lesser_epoch(self):
        seeking = following(row=ROW, epoch=4)
        seeking.seek()
        for house in (seeking, following(row=ROW, epoch=4), leading(name="bea", row=ROW, epoch=4)):
            ahead = behaved(house)
            for epoch in range(4):
                self.assertEqual(house.take(("lead", "cyd", "bea", epoch)), [])
            self.assertEqual(behaved(house), ahead)

    def test_a_new_house_by_epoch_0(self):
        self.check(House("bea", THREE), ("lead", "ann", "bea", 0))


class TestLead(unittest.TestCase):

    def test_it_hears_of_nobody_and_its_clock_begins_anew(self):
        house = leading(row=ROW, epoch=4, synced={"bea": (3, 1)})
        for k in range(3):
            house.beat()
            self.assertEqual(house.clock(), k + 1)
        house.seek()
        self.assertEqual(house.clock(), 0)
        house.take(("promise", "cyd", "ann", 5, (3, 1)))
        self.assertEqual((house.role(), house.clock(), house.synced()), ("leads", 0, ["ann"]))
        house.beat()
        self.assertEqual(house.clock(), 1)

    def test_promises_of_the_elder_epoch_are_forgotten(self):
        house = leading(members=FIVE, row=ROW, epoch=4, synced={"bea": (3, 1), "dot": (3, 1), "eve": (3, 1)})
        house.seek()
        self.assertEqual(house.take(("promise", "cyd", "ann", 5, (3, 1))), [])
        self.assertEqual(house.role(), "seeks")
        self.assertEqual([letter[2] for letter in house.take(("promise", "eve", "ann", 5, (3, 1)))], ["cyd", "eve"])
        self.assertEqual([letter[:3] for letter in house.beat()], [
            ("lead", "ann", "bea"), ("sync", "ann", "cyd"), ("lead", "ann", "dot"), ("sync", "ann", "eve")])

    def test_nothing_is_done_before_it_is_settled(self):
        house = leading(row=row_at(*numbered(1, 3)), epoch=2)
        self.assertEqual((house.role(), house.is_settled(), house.done()), ("leads", False, NOWHERE))
        self.assertEqual(house.take(("synced", "bea", "ann", 2, (1, 2))), [("done", "ann", "bea", 2, (1, 2))])


if __name__ == "__main__":
    unittest.main()
