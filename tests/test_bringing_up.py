"""Point 13: sync in its three ways, lack, synced."""

import unittest

from tests.woven import FIVE, THREE, ask, behaved, following, leading, numbered, row_at
from watchednodes.houses import House
from watchednodes.paths import NOWHERE
from watchednodes.rows import state_of

ROW = row_at((1, 1), (1, 2), (3, 1), (3, 2), (6, 1))
OTHER = row_at((1, 1), (1, 2), (2, 1), (2, 2))


def rows_from(row, k):
    """The things of a row from the k-th on, as a letter tells them."""
    return tuple(row[k:])


class TestSyncSaid(unittest.TestCase):

    # By what the other one told as its last: way, base, and how many things stand up to base.
    WAYS = [
        (NOWHERE, "more", NOWHERE, 0), ((1, 1), "more", (1, 1), 1), ((1, 2), "more", (1, 2), 2),
        ((3, 1), "more", (3, 1), 3), ((3, 2), "more", (3, 2), 4), ((6, 1), "more", (6, 1), 5),
        ((1, 3), "cut", (1, 2), 2), ((2, 1), "cut", (1, 2), 2), ((2, 9), "cut", (1, 2), 2), ((3, 0), "cut", (1, 2), 2),
        ((3, 3), "cut", (3, 2), 4), ((5, 1), "cut", (3, 2), 4), ((6, 0), "cut", (3, 2), 4), ((6, 2), "cut", (6, 1), 5),
        ((7, 1), "cut", (6, 1), 5), ((10 ** 29, 0), "cut", (6, 1), 5),
        ((1, 0), "all", NOWHERE, 0), ((0, 1), "all", NOWHERE, 0), ((0, 9), "all", NOWHERE, 0)]

    def test_by_what_the_other_one_told_as_its_last(self):
        for last, way, base, many in self.WAYS:
            house = leading(row=ROW, epoch=8, promises={})
            right = [("sync", "ann", "cyd", 8, way, base, rows_from(ROW, many), NOWHERE)]
            self.assertEqual(house.take(("promise", "cyd", "ann", 8, last)), right)
            self.assertEqual(house.beat()[1:], right)
            self.assertEqual(house.take(("promise", "cyd", "ann", 8, last)), right)

    def test_of_an_empty_row(self):
        for last, way in ((NOWHERE, "more"), ((1, 1), "all"), ((0, 1), "all")):
            house = leading(epoch=8, promises={})
            self.assertEqual(house.take(("promise", "cyd", "ann", 8, last)), [
                ("sync", "ann", "cyd", 8, way, NOWHERE, (), NOWHERE)])

    def test_its_done_is_told(self):
        house = following(name="ann", row=ROW, epoch=7, done=(3, 1), head="bea")
        house.seek()
        self.assertEqual(house.take(("promise", "cyd", "ann", 8, (3, 2))), [
            ("sync", "ann", "cyd", 8, "more", (3, 2), rows_from(ROW, 4), (3, 1))])
        house.take(("synced", "cyd", "ann", 8, (3, 2)))
        self.assertEqual(house.take(("promise", "bea", "ann", 8, (7, 7))), [
            ("sync", "ann", "bea", 8, "cut", (6, 1), (), (3, 2))])

    def test_what_was_put_since_is_told_too(self):
        house = leading(members=FIVE, row=ROW, epoch=8, synced={"bea": (6, 1), "cyd": (6, 1)})
        house.take(("promise", "dot", "ann", 8, (3, 1)))
        house.put(ask(99))
        row = ROW + [((8, 1), ask(99))]
        self.assertEqual([letter for letter in house.beat() if letter[2] == "dot"], [
            ("sync", "ann", "dot", 8, "more", (3, 1), rows_from(row, 3), (6, 1))])


class TestSyncTaken(unittest.TestCase):

    def promised(self, row=(), epoch=3, done=NOWHERE, to="ann", by=8):
        house = following(row=row, epoch=epoch, done=done, head="cyd")
        house.take(("seek", to, "bea", by, 9, (9, 9)))
        return house

    def check(self, house, letter, row, *, done):
        last = row[-1][0] if row else NOWHERE
        self.assertEqual(house.take(letter), [("synced", "bea", letter[1], letter[3], last)])
        self.assertEqual((house.role(), house.head(), house.epoch(), house.promised(), house.clock(), house.synced()),
                         ("follows", letter[1], letter[3], letter[3], 0, []))
        self.assertEqual((house.row(), house.done()), (row, done))
        self.assertEqual(house.state(), state_of([placed for placed in row if placed[0] <= done]))

    def test_more(self):
        for many in range(6):
            base = ROW[many - 1][0] if many else NOWHERE
            letter = ("sync", "ann", "bea", 8, "more", base, rows_from(ROW, many), NOWHERE)
            self.check(self.promised(ROW[:many]), letter, ROW, done=NOWHERE)

    def test_cut(self):
        for many in range(3):
            base = ROW[many - 1][0] if many else NOWHERE
            letter = ("sync", "ann", "bea", 8, "cut", base, rows_from(ROW, many), NOWHERE)
            self.check(self.promised(OTHER), letter, ROW, done=NOWHERE)
        self.check(self.promised(OTHER), ("sync", "ann", "bea", 8, "cut", (1, 2), (), NOWHERE), ROW[:2], done=NOWHERE)
        self.check(self.promised(OTHER), ("sync", "ann", "bea", 8, "cut", (2, 2), (), NOWHERE), OTHER, done=NOWHERE)

    def test_all(self):
        for row in ([], ROW[:1], ROW, OTHER):
            for after in ([], ROW[:1], ROW, OTHER):
                letter = ("sync", "ann", "bea", 8, "all", NOWHERE, tuple(after), NOWHERE)
                self.check(self.promised(row), letter, after, done=NOWHERE)

    def test_the_way_is_but_a_word(self):
        for way in ("more", "cut", "all"):
            letter = ("sync", "ann", "bea", 8, way, (1, 1), rows_from(ROW, 1), NOWHERE)
            self.check(self.promised(OTHER), letter, ROW, done=NOWHERE)

    def test_done(self):
        for own in range(3):
            for told, after in ((NOWHERE, NOWHERE), ((1, 1), (1, 1)), ((1, 5), (1, 5)), ((3, 2), (3, 2)),
                                ((6, 1), (6, 1)), ((6, 2), (6, 1)), ((9, 9), (6, 1))):
                place = OTHER[own - 1][0] if own else NOWHERE
                letter = ("sync", "ann", "bea", 8, "cut", (1, 2), rows_from(ROW, 2), told)
                self.check(self.promised(OTHER, done=place), letter, ROW, done=max(place, after))

    def test_done_of_an_empty_row(self):
        letter = ("sync", "ann", "bea", 8, "more", NOWHERE, (), (5, 5))
        self.check(self.promised(), letter, [], done=NOWHERE)

    def test_of_a_new_house_and_of_one_that_seeks_or_leads(self):
        letter = ("sync", "ann", "bea", 8, "all", NOWHERE, tuple(ROW), (3, 1))
        new = House("bea", THREE)
        new.take(("lead", "ann", "bea", 8))
        self.check(new, letter, ROW, done=(3, 1))
        head = leading(name="bea", row=OTHER, epoch=5, synced={"cyd": (2, 2)})
        head.take(("lead", "ann", "bea", 8))
        self.check(head, letter, ROW, done=(3, 1))
        seeking = following(row=OTHER, epoch=7, head="ann")
        seeking.seek()
        self.check(seeking, letter, ROW, done=(3, 1))

    def test_its_own_epoch(self):
        for things, base, way in ((tuple(ROW), NOWHERE, "all"), ((), NOWHERE, "all"),
                                  (rows_from(OTHER, 2), (1, 2), "cut"), ((), (9, 9), "more"),
                                  ((((9, 9), ask(1)),), (5, 5), "cut")):
            house = following(row=OTHER, epoch=8, done=(1, 2))
            letter = ("sync", "ann", "bea", 8, way, base, things, (9, 9))
            self.check(house, letter, OTHER, done=(1, 2))
            self.check(house, letter, OTHER, done=(1, 2))
            house.begin_anew()
            self.check(house, letter, OTHER, done=NOWHERE)

    def test_told_twice(self):
        house = self.promised(OTHER)
        letter = ("sync", "ann", "bea", 8, "cut", (1, 2), rows_from(ROW, 2), (1, 2))
        self.check(house, letter, ROW, done=(1, 2))
        house.take(("propose", "ann", "bea", 8, (6, 1), (8, 1), ask(9)))
        house.take(("done", "ann", "bea", 8, (8, 1)))
        self.check(house, letter, ROW + [((8, 1), ask(9))], done=(8, 1))

    def test_of_an_epoch_that_is_not_promised(self):
        for house in (self.promised(ROW), following(row=ROW, epoch=8), House("bea", THREE)):
            ahead = behaved(house)
            for epoch in (1, 2, 3, 7, 9, 10 ** 29):
                for way, base in (("all", NOWHERE), ("more", (1, 1)), ("cut", (1, 1))):
                    self.assertEqual(house.take(("sync", "ann", "bea", epoch, way, base, (), (9, 9))), [])
            self.assertEqual(behaved(house), ahead)

    def test_to_one_that_leads(self):
        for synced in ({}, {"cyd": NOWHERE}):
            house = leading(name="bea", row=ROW, epoch=8, synced=synced)
            ahead = behaved(house)
            for epoch in (7, 8, 9):
                self.assertEqual(house.take(("sync", "ann", "bea", epoch, "all", NOWHERE, (), (9, 9))), [])
            self.assertEqual(behaved(house), ahead)

    def test_lack(self):
        for base in ((2, 3), (1, 3), (3, 1), (0, 1), (1, 0), (9, 9)):
            house = self.promised(OTHER, done=(1, 1))
            ahead = behaved(house)
            for way in ("more", "cut", "all"):
                letter = ("sync", "ann", "bea", 8, way, base, (((9, 10), ask(1)),), (9, 9))
                self.assertEqual(house.take(letter), [("lack", "bea", "ann", 8)])
            self.assertEqual(behaved(house), ahead)
        self.assertEqual(self.promised().take(("sync", "ann", "bea", 8, "more", (1, 1), (), NOWHERE)), [
            ("lack", "bea", "ann", 8)])

    def test_done_behind_a_sync(self):
        house = self.promised(OTHER)
        house.take(("sync", "ann", "bea", 8, "cut", (1, 2), rows_from(ROW, 2), (1, 2)))
        for place, after in (((3, 1), (3, 1)), ((1, 1), (3, 1)), ((9, 9), (6, 1)), (NOWHERE, (6, 1))):
            self.assertEqual(house.take(("done", "ann", "bea", 8, place)), [])
            self.assertEqual(house.done(), after)


class TestLackTaken(unittest.TestCase):

    def test_the_head_says_all(self):
        for house in (leading(row=ROW, epoch=8, synced={"bea": (6, 1)}), leading(row=ROW, epoch=8)):
            for other in ("bea", "cyd"):
                ahead = behaved(house)
                for _ in range(2):
                    self.assertEqual(house.take(("lack", other, "ann", 8)), [
                        ("sync", "ann", other, 8, "all", NOWHERE, tuple(ROW), house.done())])
                self.assertEqual(behaved(house), ahead)

    def test_of_an_empty_row(self):
        self.assertEqual(leading(epoch=8).take(("lack", "bea", "ann", 8)), [
            ("sync", "ann", "bea", 8, "all", NOWHERE, (), NOWHERE)])

    def test_of_another_epoch_or_to_one_that_does_not_lead(self):
        seeking = following(name="ann", row=ROW, epoch=7, head="bea")
        seeking.seek()
        for house in (leading(row=ROW, epoch=8), following(name="ann", row=ROW, epoch=7, head="bea"), seeking):
            ahead = behaved(house)
            for epoch in (0, 1, 6, 7, 9, 8)[:6 if house.role() != "leads" else 5]:
                self.assertEqual(house.take(("lack", "bea", "ann", epoch)), [])
            self.assertEqual(behaved(house), ahead)


class TestSyncedTaken(unittest.TestCase):

    def test_it_is_synced(self):
        house = leading(members=FIVE, row=ROW, epoch=8, promises={"eve": NOWHERE, "cyd": NOWHERE})
        self.assertEqual((house.synced(), house.is_settled()), (["ann"], False))
        self.assertEqual(house.take(("synced", "eve", "ann", 8, (3, 1))), [])
        self.assertEqual((house.synced(), house.is_settled(), house.done()), (["ann", "eve"], False, NOWHERE))
        self.assertEqual(house.take(("synced", "cyd", "ann", 8, (6, 1))), [
            ("done", "ann", "cyd", 8, (3, 1)), ("done", "ann", "eve", 8, (3, 1))])
        self.assertEqual((house.synced(), house.is_settled(), house.done()), (["ann", "cyd", "eve"], True, (3, 1)))

    def test_of_one_told_twice(self):
        house = leading(members=FIVE, row=ROW, epoch=8)
        for _ in range(4):
            self.assertEqual(house.take(("synced", "eve", "ann", 8, (6, 1))), [])
        self.assertEqual((house.synced(), house.is_settled()), (["ann", "eve"], False))

    def test_it_took_up_to_what_is_greater(self):
        house = leading(row=ROW, epoch=8, synced={"cyd": (3, 1)})
        self.assertEqual(house.done(), (3, 1))
        self.assertEqual(house.take(("synced", "cyd", "ann", 8, (1, 2))), [])
        self.assertEqual([letter[5] for letter in house.beat() if letter[0] == "propose"], [(3, 2), (6, 1)])
        self.assertEqual(house.take(("synced", "cyd", "ann", 8, (3, 2))), [("done", "ann", "cyd", 8, (3, 2))])
        self.assertEqual([letter[5] for letter in house.beat() if letter[0] == "propose"], [(6, 1)])

    def test_late_behind_a_new_promise(self):
        house = leading(row=ROW, epoch=8, synced={"cyd": (6, 1)})
        house.put(ask(99))
        house.take(("promise", "cyd", "ann", 8, (1, 1)))
        self.assertEqual((house.synced(), house.is_settled()), (["ann"], False))
        self.assertEqual(house.take(("synced", "cyd", "ann", 8, (1, 2))), [])
        self.assertEqual((house.synced(), house.is_settled(), house.done()), (["ann", "cyd"], True, (6, 1)))
        self.assertEqual(
            [letter[5] for letter in house.beat() if letter[0] == "propose"], [(3, 1), (3, 2), (6, 1), (8, 1)])

    def test_what_it_told_ahead_while_it_was_not_synced_is_nothing(self):
        house = leading(row=ROW, epoch=8, promises={"bea": NOWHERE})
        self.assertEqual(house.take(("took", "bea", "ann", 8, (6, 1))), [])
        self.assertEqual((house.synced(), house.done()), (["ann"], NOWHERE))
        self.assertEqual(house.take(("synced", "bea", "ann", 8, (1, 1))), [("done", "ann", "bea", 8, (1, 1))])

    def test_beyond_the_row(self):
        for place in ((6, 2), (9, 9)):
            house = leading(row=ROW, epoch=8)
            self.assertEqual(house.take(("synced", "cyd", "ann", 8, place)), [("done", "ann", "cyd", 8, (6, 1))])
        for place, done in (((1, 9), (1, 2)), ((5, 5), (3, 2))):
            house = leading(row=ROW, epoch=8)
            self.assertEqual(house.take(("synced", "cyd", "ann", 8, place)), [("done", "ann", "cyd", 8, done)])
        house = leading(row=ROW, epoch=8)
        self.assertEqual(house.take(("synced", "cyd", "ann", 8, (1, 0))), [])
        self.assertEqual((house.is_settled(), house.done()), (True, NOWHERE))

    def test_of_another_epoch_or_to_one_that_does_not_lead(self):
        seeking = following(name="ann", row=ROW, epoch=7, head="bea")
        seeking.seek()
        for house in (leading(row=ROW, epoch=8), following(name="ann", row=ROW, epoch=7, head="bea"), seeking):
            ahead = behaved(house)
            for epoch in (0, 1, 6, 7, 9, 8)[:6 if house.role() != "leads" else 5]:
                self.assertEqual(house.take(("synced", "bea", "ann", epoch, (6, 1))), [])
                self.assertEqual(house.take(("took", "bea", "ann", epoch, (6, 1))), [])
            self.assertEqual(behaved(house), ahead)

    def test_all_promised_are_brought_up(self):
        row = row_at(*numbered(1, 4))
        head = leading(row=row, epoch=5, promises={})
        behind = following(row=row[:2], epoch=2, head="cyd")
        for letter in behind.take(("lead", "ann", "bea", 5)):
            for sync in head.take(letter):
                for synced in behind.take(sync):
                    self.assertEqual(head.take(synced), [("done", "ann", "bea", 5, (1, 4))])
        self.assertEqual((behind.row(), behind.epoch(), behind.head()), (row, 5, "ann"))


if __name__ == "__main__":
    unittest.main()
