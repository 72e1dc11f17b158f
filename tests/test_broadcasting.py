"""Points 14 and 15: putting, taking, what is done; and touch, of point 16."""

import unittest

from tests.woven import FIVE, ONE, THREE, ask, behaved, following, leading, numbered, row_at
from watchednodes.errors import NotHead
from watchednodes.houses import House
from watchednodes.paths import NOWHERE
from watchednodes.rows import state_of

ROW = row_at((1, 1), (1, 2), (3, 1))
OPEN = ask(1, deed=("open", 9))


class TestPut(unittest.TestCase):

    def test_places_of_the_first_and_later_entries_of_an_epoch(self):
        house = leading(row=ROW, epoch=4, synced={"bea": (3, 1)})
        prior = (3, 1)
        for k in range(4):
            place = (4, k + 1)
            self.assertEqual(house.put(ask(50 + k)), [("propose", "ann", "bea", 4, prior, place, ask(50 + k))])
            self.assertEqual(house.row()[-1], (place, ask(50 + k)))
            prior = place
        self.assertEqual(house.row()[:3], ROW)
        self.assertEqual(house.done(), (3, 1))

    def test_of_an_empty_row(self):
        house = leading(epoch=4, synced={"bea": NOWHERE})
        self.assertEqual(house.put(ask(1)), [("propose", "ann", "bea", 4, NOWHERE, (4, 1), ask(1))])

    def test_in_a_later_epoch_the_numbers_begin_anew(self):
        house = leading(row=ROW, epoch=4, synced={"bea": (3, 1)})
        house.put(ask(50))
        house.put(ask(51))
        house.seek()
        house.take(("promise", "bea", "ann", 5, (3, 1)))
        house.take(("synced", "bea", "ann", 5, (4, 2)))
        self.assertEqual(house.put(ask(52)), [("propose", "ann", "bea", 5, (4, 2), (5, 1), ask(52))])

    def test_to_each_synced_one_in_the_members_order(self):
        synced = {"eve": (3, 1), "ann": (3, 1), "dot": NOWHERE}
        house = leading(name="cyd", members=FIVE, row=ROW, epoch=4, synced=synced)
        self.assertEqual(house.put(("end", "bob")), [
            ("propose", "cyd", other, 4, (3, 1), (4, 1), ("end", "bob")) for other in ("ann", "dot", "eve")])

    def test_every_entry(self):
        house = leading(epoch=4, synced={"bea": NOWHERE})
        for entry in (ask(5), ask(5), ask(1), ("end", "bob"), ("end", "bob"), OPEN, ask(2, "amy", ("close",))):
            self.assertEqual([letter[6] for letter in house.put(entry)], [entry])
        self.assertEqual(len(house.row()), 7)
        self.assertEqual(house.done(), NOWHERE)

    def test_a_head_that_is_not_settled(self):
        house = leading(members=FIVE, row=ROW, epoch=4, synced={"bea": (3, 1)})
        ahead = behaved(house)
        with self.assertRaises(NotHead):
            house.put(ask(1))
        self.assertEqual(behaved(house), ahead)
        house.take(("synced", "cyd", "ann", 4, (3, 1)))
        self.assertEqual(len(house.put(ask(1))), 2)

    def test_alone_it_is_done_at_once(self):
        house = House("ann", ONE)
        house.seek()
        for k in range(3):
            self.assertEqual(house.put(ask(k + 1, deed=("open", 9))), [])
            self.assertEqual((house.done(), len(house.done_row())), ((1, k + 1), k + 1))
        self.assertEqual(house.state()[1], {"bob": (9, 3, ("no", "open"), (1, 3))})


class TestPropose(unittest.TestCase):

    def check(self, house, letter, row):
        last = row[-1][0] if row else NOWHERE
        took = letter[5] in [place for place, _ in row]
        done = house.done()
        self.assertEqual(house.take(letter), [("took", "bea", letter[1], letter[3], last)] if took else [])
        self.assertEqual((house.role(), house.head(), house.row()), ("follows", letter[1], row))
        self.assertEqual(house.done(), done)

    def propose(self, prior, place, entry=None, epoch=4, head="ann"):
        return ("propose", head, "bea", epoch, prior, place, ask(77) if entry is None else entry)

    def test_behind_the_last_place(self):
        house, row = following(row=ROW, epoch=4, done=(1, 2)), list(ROW)
        for place in ((4, 1), (4, 2), (4, 3)):
            letter = self.propose(row[-1][0], place, ask(90 + place[1]))
            row.append((place, ask(90 + place[1])))
            self.check(house, letter, row)

    def test_of_an_empty_row(self):
        self.check(following(epoch=4), self.propose(NOWHERE, (4, 1)), [((4, 1), ask(77))])
        self.check(following(epoch=4), self.propose((1, 1), (4, 1)), [])

    def test_whose_prior_is_not_the_last_place(self):
        for prior, place in ((NOWHERE, (4, 1)), ((1, 2), (4, 1)), ((4, 1), (4, 2)), ((3, 0), (4, 1)), ((3, 2), (4, 1)),
                             ((9, 1), (9, 2))):
            self.check(following(row=ROW, epoch=4), self.propose(prior, place), ROW)

    def test_whose_place_is_there_already(self):
        for prior, place in ((NOWHERE, (1, 1)), ((1, 1), (1, 2)), ((1, 2), (3, 1)), ((0, 1), (3, 1))):
            self.check(following(row=ROW, epoch=4), self.propose(prior, place), ROW)

    def test_told_twice(self):
        house = following(row=ROW, epoch=4)
        row = ROW + [((4, 1), ask(77))]
        for _ in range(3):
            self.check(house, self.propose((3, 1), (4, 1)), row)
        self.check(house, self.propose((4, 1), (4, 2)), row + [((4, 2), ask(77))])
        self.check(house, self.propose((3, 1), (4, 1)), row + [((4, 2), ask(77))])

    def test_out_of_order(self):
        house = following(row=ROW, epoch=4)
        first, second = self.propose((3, 1), (4, 1), ask(1)), self.propose((4, 1), (4, 2), ask(2))
        self.check(house, second, ROW)
        self.check(house, first, ROW + [((4, 1), ask(1))])
        self.check(house, second, ROW + [((4, 1), ask(1)), ((4, 2), ask(2))])

    def test_of_another_epoch(self):
        promised = following(row=ROW, epoch=4)
        promised.take(("seek", "cyd", "bea", 6, 9, NOWHERE))
        seeking = following(row=ROW, epoch=4)
        seeking.seek()
        for house in (following(row=ROW, epoch=5), promised, seeking, following(row=ROW, epoch=3)):
            ahead = behaved(house)
            for epoch in (0, 3, 4, 5, 6, 7):
                if (epoch, epoch) != (house.epoch(), house.promised()):
                    self.assertEqual(house.take(self.propose((3, 1), (4, 1), epoch=epoch)), [])
                    self.assertEqual(house.take(("done", "ann", "bea", epoch, (3, 1))), [])
            self.assertEqual(behaved(house), ahead)

    def test_to_one_that_leads(self):
        for synced in ({}, {"cyd": (3, 1)}):
            house = leading(name="bea", row=ROW, epoch=4, synced=synced)
            ahead = behaved(house)
            self.assertEqual(house.take(self.propose((3, 1), (4, 1))), [])
            self.assertEqual(house.take(("done", "ann", "bea", 4, (3, 1))), [])
            self.assertEqual(behaved(house), ahead)

    def test_a_new_house_by_epoch_0(self):
        self.check(House("bea", THREE), self.propose(NOWHERE, (4, 1), epoch=0), [((4, 1), ask(77))])

    def test_it_follows_whoever_says_it(self):
        house = following(row=ROW, epoch=4, head="cyd")
        self.check(house, self.propose((1, 1), (1, 2)), ROW)
        self.assertEqual(house.head(), "ann")
        self.check(house, self.propose((9, 1), (9, 2), head="cyd"), ROW)
        self.assertEqual(house.head(), "cyd")


class TestTook(unittest.TestCase):

    def settled(self):
        return leading(members=FIVE, row=ROW, epoch=4, synced={"bea": (3, 1), "dot": (3, 1), "eve": (3, 1)})

    def done(self, place):
        return [("done", "ann", other, 4, place) for other in ("bea", "dot", "eve")]

    def test_done_is_said_just_when_it_goes_on(self):
        house = self.settled()
        for k in range(3):
            house.put(ask(90 + k))
        for other, place, done in (("bea", (4, 1), None), ("bea", (4, 1), None), ("dot", (3, 1), None),
                                   ("dot", (4, 1), (4, 1)), ("dot", (4, 1), None), ("eve", (4, 3), None),
                                   ("bea", (4, 2), (4, 2)), ("dot", (4, 2), None), ("eve", (4, 3), None),
                                   ("dot", (4, 3), (4, 3)), ("bea", (4, 3), None)):
            letters = house.take(("took", other, "ann", 4, place))
            self.assertEqual(letters, [] if done is None else self.done(done))
        self.assertEqual(house.done(), (4, 3))
        self.assertEqual(house.state(), state_of(house.row()))

    def test_several_at_once(self):
        house = self.settled()
        for k in range(3):
            house.put(ask(90 + k))
        self.assertEqual(house.take(("took", "eve", "ann", 4, (4, 3))), [])
        self.assertEqual(house.take(("took", "bea", "ann", 4, (4, 2))), self.done((4, 2)))

    def test_what_is_told_ahead_stays_if_it_is_greater(self):
        house = self.settled()
        for k in range(2):
            house.put(ask(90 + k))
        house.take(("took", "eve", "ann", 4, (4, 2)))
        self.assertEqual(house.take(("took", "eve", "ann", 4, (1, 1))), [])
        self.assertEqual(house.take(("took", "bea", "ann", 4, (4, 2))), self.done((4, 2)))

    def test_beyond_what_was_put_yet(self):
        house = self.settled()
        for other in ("bea", "dot"):
            self.assertEqual(house.take(("took", other, "ann", 4, (4, 2))), [])
        self.assertEqual(house.done(), (3, 1))
        for k, done in ((0, True), (1, True), (2, False)):
            letters = house.put(ask(90 + k))
            self.assertEqual([letter[0] for letter in letters[:3]], ["propose"] * 3)
            self.assertEqual(letters[3:], self.done((4, k + 1)) if done else [])

    def test_a_place_that_is_none_of_the_row(self):
        house = leading(row=ROW, epoch=4, synced={"bea": NOWHERE})
        self.assertEqual(house.take(("took", "bea", "ann", 4, (1, 0))), [])
        self.assertEqual(house.take(("took", "bea", "ann", 4, (2, 7))), [("done", "ann", "bea", 4, (1, 2))])
        self.assertEqual(house.take(("took", "bea", "ann", 4, (3, 0))), [])
        self.assertEqual(house.take(("took", "bea", "ann", 4, (9, 9))), [("done", "ann", "bea", 4, (3, 1))])

    def test_of_one_that_is_not_synced(self):
        house = self.settled()
        house.put(ask(90))
        house.take(("took", "bea", "ann", 4, (4, 1)))
        house.take(("promise", "dot", "ann", 4, (3, 1)))
        for other in ("cyd", "dot"):
            ahead = behaved(house)
            self.assertEqual(house.take(("took", other, "ann", 4, (4, 1))), [])
            self.assertEqual(behaved(house), ahead)
        self.assertEqual(house.done(), (3, 1))

    def test_fewer_than_most_took_it(self):
        house = self.settled()
        for k in range(20):
            house.put(ask(90 + k))
            for place in ((4, k + 1), (9, 9)):
                self.assertEqual(house.take(("took", "bea", "ann", 4, place)), [])
            self.assertEqual([letter for letter in house.beat() if letter[0] == "done"], self.done((3, 1)))
        self.assertEqual(house.done(), (3, 1))

    def test_a_head_that_is_not_settled_looks_at_nothing(self):
        house = self.settled()
        house.put(ask(90))
        house.take(("took", "bea", "ann", 4, (4, 1)))
        for other in ("dot", "eve"):
            house.take(("promise", other, "ann", 4, (3, 1)))
        self.assertEqual((house.synced(), house.is_settled()), (["ann", "bea"], False))
        self.assertEqual(house.take(("took", "bea", "ann", 4, (9, 9))), [])
        self.assertEqual(house.take(("synced", "dot", "ann", 4, (4, 1))), [
            ("done", "ann", "bea", 4, (4, 1)), ("done", "ann", "dot", 4, (4, 1))])


class TestDone(unittest.TestCase):

    def test_how_far(self):
        house = following(row=ROW, epoch=4)
        for place, after in ((NOWHERE, NOWHERE), ((1, 1), (1, 1)), (NOWHERE, (1, 1)), ((1, 0), (1, 1)),
                             ((3, 1), (3, 1)), ((1, 2), (3, 1)), ((4, 1), (3, 1)), ((10 ** 29, 0), (3, 1))):
            self.assertEqual(house.take(("done", "ann", "bea", 4, place)), [])
            self.assertEqual((house.role(), house.head(), house.done()), ("follows", "ann", after))
            self.assertEqual(house.state(), state_of(house.done_row()))
        self.assertEqual((house.row(), house.done_row()), (ROW, ROW))

    def test_ahead_of_what_it_has(self):
        house = following(row=ROW, epoch=4)
        self.assertEqual(house.take(("done", "ann", "bea", 4, (4, 2))), [])
        self.assertEqual(house.done(), (3, 1))
        for k in range(2):
            prior = house.row()[-1][0]
            house.take(("propose", "ann", "bea", 4, prior, (4, k + 1), ask(90 + k)))
        self.assertEqual(house.done(), (3, 1))
        house.take(("done", "ann", "bea", 4, (4, 1)))
        self.assertEqual(house.done(), (4, 1))

    def test_of_an_empty_row(self):
        house = following(epoch=4)
        self.assertEqual(house.take(("done", "ann", "bea", 4, (4, 2))), [])
        self.assertEqual(house.done(), NOWHERE)

    def test_it_follows_whoever_says_it(self):
        house = following(row=ROW, epoch=4, head="cyd")
        house.take(("done", "ann", "bea", 4, NOWHERE))
        self.assertEqual((house.role(), house.head()), ("follows", "ann"))


class TestPutOnce(unittest.TestCase):

    def settled(self, stamp=5, members=THREE):
        """A settled head in whose state bob's last stamp is this one."""
        row = [((1, 1), OPEN), ((1, 2), ask(stamp))]
        return leading(members=members, row=row, epoch=4, synced={"bea": (1, 2)} if len(members) > 1 else {})

    def test_a_new_one(self):
        house = self.settled()
        for entry in (ask(6), ask(9), ask(7), ask(1, "amy"), ask(5, "amy")):
            other = house.twin()
            self.assertEqual(house.put_once(entry), other.put(entry))
            self.assertEqual(house.row(), other.row())
        self.assertEqual(len(house.row()), 7)

    def test_one_that_the_state_has(self):
        house = self.settled()
        for stamp in (1, 4, 5):
            for deed in (("bring",), ("open", 9), ("close",)):
                self.assertEqual(house.put_once(ask(stamp, deed=deed)), [])
        self.assertEqual(len(house.row()), 2)

    def test_of_a_session_that_ended(self):
        row = [((1, 1), OPEN), ((1, 2), ask(5)), ((1, 3), ("end", "bob"))]
        house = leading(row=row, epoch=4, synced={"bea": (1, 3)})
        self.assertEqual(house.put_once(ask(5)), [])
        self.assertEqual(len(house.put_once(ask(6))), 1)

    def test_one_that_stands_behind_done(self):
        house = self.settled()
        self.assertEqual(len(house.put_once(ask(6))), 1)
        self.assertEqual(house.put_once(ask(6)), [])
        self.assertEqual(len(house.put_once(ask(6, deed=("close",)))), 1)
        self.assertEqual(len(house.put_once(ask(7))), 1)
        self.assertEqual(house.put_once(ask(6)), [])
        self.assertEqual(len(house.row()), 5)
        house.take(("took", "bea", "ann", 4, (4, 3)))
        self.assertEqual(house.put_once(ask(6)), [])
        self.assertEqual(len(house.put_once(ask(8))), 1)

    def test_one_that_is_done_in_the_row_but_not_in_the_state(self):
        # By a follower's row it isn't done yet, so the new head has it behind done.
        house = following(name="ann", row=[((1, 1), OPEN), ((1, 2), ask(5))], epoch=3, head="bea", done=(1, 1))
        house.seek()
        house.take(("promise", "bea", "ann", 4, NOWHERE))
        house.take(("synced", "bea", "ann", 4, NOWHERE))
        self.assertEqual((house.done(), house.is_settled()), ((1, 1), True))
        self.assertEqual(house.put_once(ask(5)), [])
        self.assertEqual(house.put_once(OPEN), [])
        self.assertEqual(len(house.put_once(ask(4))), 1)

    def test_done_ahead_alike_is_no_hindrance(self):
        # A like entry that stands up to done counts by the state alone.
        house = leading(members=ONE, epoch=4)
        house.put(ask(5, "amy"))
        self.assertEqual(house.put_once(ask(5, "amy")), [])
        self.assertEqual(len(house.row()), 1)
        house.put_once(ask(6, "amy"))
        self.assertEqual((len(house.row()), house.done()), (2, (4, 2)))

    def test_the_letters_of_what_is_done_at_once(self):
        house = self.settled()
        house.take(("took", "bea", "ann", 4, (4, 1)))
        self.assertEqual(house.put_once(ask(6)), [
            ("propose", "ann", "bea", 4, (1, 2), (4, 1), ask(6)), ("done", "ann", "bea", 4, (4, 1))])


class TestForward(unittest.TestCase):

    def settled(self):
        return leading(row=[((1, 1), OPEN)], epoch=4, synced={"bea": (1, 1)})

    def test_of_its_epoch(self):
        for other in ("bea", "cyd"):
            for entry in (ask(2), ask(1), ask(1, "amy")):
                house, right = self.settled(), self.settled()
                letters = house.take(("forward", other, "ann", 4, entry))
                self.assertEqual(letters, right.put_once(entry))
                self.assertEqual(len(letters), 0 if entry == ask(1) else 1)
                self.assertEqual(behaved(house), behaved(right))
        house = self.settled()
        for k in range(3):
            self.assertEqual(len(house.take(("forward", "cyd", "ann", 4, ask(2)))), 0 if k else 1)

    def test_of_other_epochs_and_at_others(self):
        unsettled = leading(members=FIVE, row=[((1, 1), OPEN)], epoch=4, synced={"bea": (1, 1)})
        following_one = following(name="ann", row=[((1, 1), OPEN)], epoch=4, head="bea")
        seeking = following_one.twin()
        seeking.seek()
        for house in (self.settled(), unsettled, following_one, seeking, House("ann", THREE)):
            ahead = behaved(house)
            for epoch in (0, 1, 3, 5, 9) + (() if house.is_settled() else (4,)):
                self.assertEqual(house.take(("forward", "bea", "ann", epoch, ask(2))), [])
                self.assertEqual(house.take(("touch", "bea", "ann", epoch, "bob")), [])
            self.assertEqual(behaved(house), ahead)


class TestHeardOf(unittest.TestCase):
    """How long bob's session stands tells when he was heard of last."""

    def settled(self, limit=2):
        return leading(row=[((1, 1), ask(1, deed=("open", limit)))], epoch=4, synced={"bea": (1, 1)})

    def beats_till_end(self, house):
        for k in range(50):
            if ("end", "bob") in [letter[6] for letter in house.beat() if letter[0] == "propose"]:
                return k + 1
        return None

    def test_by_each_way(self):
        for heard in (lambda house: house.take(("touch", "cyd", "ann", 4, "bob")), lambda house: house.hear_of("bob"),
                      lambda house: house.put_once(ask(1)), lambda house: house.put_once(ask(2)),
                      lambda house: house.take(("forward", "bea", "ann", 4, ask(1)))):
            for ahead in range(4):
                house = self.settled()
                for _ in range(ahead):
                    house.beat()
                heard(house)
                self.assertEqual(house.clock(), ahead)
                self.assertEqual(self.beats_till_end(house), 3)

    def test_by_none(self):
        for limit in (1, 2, 7):
            self.assertEqual(self.beats_till_end(self.settled(limit)), limit + 2)

    def test_what_is_put_is_not_heard_of(self):
        house = self.settled()
        house.beat()
        house.beat()
        house.put(ask(2))
        house.take(("took", "bea", "ann", 4, (4, 1)))
        self.assertEqual(self.beats_till_end(house), 2)

    def test_of_other_askers_or_by_letters_of_other_epochs(self):
        for heard in (lambda house: house.take(("touch", "bea", "ann", 4, "amy")), lambda house: house.hear_of("amy"),
                      lambda house: house.put_once(ask(2, "amy")),
                      lambda house: house.take(("touch", "bea", "ann", 3, "bob")),
                      lambda house: house.take(("touch", "bea", "ann", 5, "bob")),
                      lambda house: house.take(("forward", "bea", "ann", 3, ask(2)))):
            house = self.settled()
            house.beat()
            house.beat()
            heard(house)
            self.assertEqual(self.beats_till_end(house), 2)

    def test_one_that_has_no_session_yet(self):
        house = self.settled(9)
        house.hear_of("amy")
        house.put(ask(1, "amy", ("open", 3)))
        house.take(("took", "bea", "ann", 4, (4, 1)))
        ends = []
        for k in range(5):
            ends.extend([(k + 1, letter[6]) for letter in house.beat() if letter[0] == "propose"])
        self.assertEqual(ends[0], (4, ("end", "amy")))

    def test_heard_of_while_it_is_not_settled(self):
        house = self.settled()
        house.beat()
        house.take(("promise", "bea", "ann", 4, (1, 1)))
        self.assertFalse(house.is_settled())
        house.beat()
        house.hear_of("bob")
        house.take(("touch", "cyd", "ann", 4, "bob"))
        house.put_once(ask(2))
        house.take(("synced", "bea", "ann", 4, (1, 1)))
        self.assertEqual(self.beats_till_end(house), 2)


class TestTouch(unittest.TestCase):

    def test_it_says_nothing(self):
        for house in (leading(row=ROW, epoch=4, synced={"bea": (3, 1)}), leading(row=ROW, epoch=4),
                      following(name="ann", row=ROW, epoch=4, head="bea")):
            for other in ("bea", "cyd"):
                for word in ("bob", "amy", "ann"):
                    self.assertEqual(house.take(("touch", other, "ann", 4, word)), [])
                    self.assertIsNone(house.hear_of(word))
            self.assertEqual((house.row(), house.clock()), (ROW, 0))

    def test_rows_of_many_entries(self):
        house = leading(row=row_at(*numbered(1, 30)), epoch=4, synced={"bea": (1, 30)})
        for k in range(30):
            self.assertEqual(house.put(ask(90 + k))[0][5], (4, k + 1))
        self.assertEqual(len(house.row()), 60)


if __name__ == "__main__":
    unittest.main()
