"""Point 16: the beat, what is said at it, and the sessions that it ends."""

import unittest

from tests.test_houses import opened
from tests.woven import FIVE, ONE, THREE, ask, following, leading, row_at
from watchednodes.houses import House
from watchednodes.paths import NOWHERE

ROW = row_at((1, 1), (1, 2), (3, 1))


class TestOthers(unittest.TestCase):

    def test_they_say_nothing(self):
        seeking = following(row=ROW, epoch=4)
        seeking.seek()
        anew = leading(row=ROW, epoch=4, synced={"bea": (3, 1)})
        anew.begin_anew()
        gone = leading(row=ROW, epoch=4, synced={"bea": (3, 1)})
        gone.take(("seek", "bea", "ann", 5, 9, (9, 9)))
        for house in (House("ann", THREE), House("ann", ONE), following(row=ROW, epoch=4), seeking, anew, gone):
            for _ in range(3):
                self.assertEqual((house.beat(), house.clock()), ([], 0))


class TestLetters(unittest.TestCase):

    def test_to_each_by_what_it_is(self):
        house = leading(
            name="cyd", members=FIVE, row=ROW, epoch=4, promises={"ann": (1, 1), "bea": (3, 1), "eve": (3, 1)},
            synced={"bea": (3, 1), "eve": (3, 1)})
        house.put(ask(90))
        house.put(ask(91))
        house.take(("took", "bea", "cyd", 4, (4, 1)))
        row = ROW + [((4, 1), ask(90)), ((4, 2), ask(91))]
        right = [
            ("sync", "cyd", "ann", 4, "more", (1, 1), tuple(row[1:]), (3, 1)),
            ("propose", "cyd", "bea", 4, (4, 1), (4, 2), ask(91)), ("done", "cyd", "bea", 4, (3, 1)),
            ("lead", "cyd", "dot", 4),
            ("propose", "cyd", "eve", 4, (3, 1), (4, 1), ask(90)),
            ("propose", "cyd", "eve", 4, (4, 1), (4, 2), ask(91)),
            ("done", "cyd", "eve", 4, (3, 1))]
        for k in range(3):
            self.assertEqual(house.beat(), right)
            self.assertEqual(house.clock(), k + 1)
        house.take(("took", "eve", "cyd", 4, (4, 2)))
        self.assertEqual([letter for letter in house.beat() if letter[2] == "eve"], [("done", "cyd", "eve", 4, (4, 1))])

    def test_one_that_is_not_settled(self):
        house = leading(
            members=FIVE, row=ROW, epoch=4, promises={"bea": (3, 1), "cyd": NOWHERE}, synced={"bea": (1, 2)})
        self.assertFalse(house.is_settled())
        for k in range(3):
            self.assertEqual(house.beat(), [
                ("propose", "ann", "bea", 4, (1, 2), (3, 1), ROW[2][1]), ("done", "ann", "bea", 4, NOWHERE),
                ("sync", "ann", "cyd", 4, "more", NOWHERE, tuple(ROW), NOWHERE), ("lead", "ann", "dot", 4),
                ("lead", "ann", "eve", 4)])
            self.assertEqual(house.clock(), k + 1)

    def test_all_behind_what_it_took(self):
        for many in range(4):
            took = ROW[many - 1][0] if many else NOWHERE
            house = leading(row=ROW, epoch=4, synced={"bea": took})
            letters, prior = [], took
            for place, entry in ROW[many:]:
                letters.append(("propose", "ann", "bea", 4, prior, place, entry))
                prior = place
            self.assertEqual(house.beat(), letters + [("done", "ann", "bea", 4, took), ("lead", "ann", "cyd", 4)])

    def test_behind_a_place_that_is_none_of_the_row(self):
        for took, places in (((1, 0), [(1, 1), (1, 2), (3, 1)]), ((2, 5), [(3, 1)]), ((3, 2), []), ((9, 9), [])):
            house = leading(row=ROW, epoch=4, synced={"bea": took})
            self.assertEqual([letter[5] for letter in house.beat() if letter[0] == "propose"], places)

    def test_of_an_empty_row(self):
        house = leading(epoch=4, synced={"bea": NOWHERE})
        self.assertEqual(house.beat(), [("done", "ann", "bea", 4, NOWHERE), ("lead", "ann", "cyd", 4)])

    def test_alone(self):
        house = House("ann", ONE)
        house.seek()
        for k in range(3):
            self.assertEqual((house.beat(), house.clock()), ([], k + 1))


class TestSessions(unittest.TestCase):

    def settled(self, row, members=THREE):
        """A settled head, all whose row is done."""
        synced = {other: row[-1][0] for other in members[1:len(members) // 2 + 1]}
        return leading(members=members, row=row, epoch=4, synced=synced)

    def ends(self, house):
        """What a beat puts: it stands behind all other letters."""
        many = len(house.row())
        letters = house.beat()
        put = [entry for _, entry in house.row()[many:]]
        if put:
            others = [name for name in house.synced() if name != house.called()]
            self.assertEqual([letter[:3] + letter[6:] for letter in letters[-len(put) * len(others):]], [
                ("propose", house.called(), other, entry) for entry in put for other in others])
        for entry in put:
            self.assertEqual(entry[0], "end")
        return [entry[1] for entry in put]

    def test_found_at_the_first_beat(self):
        for limit in (1, 2, 3, 10):
            house = self.settled([((1, 1), opened("bob", limit))])
            told = [self.ends(house) for _ in range(limit + 6)]
            self.assertEqual(told, [[]] * (limit + 1) + [["bob"]] + [[]] * 4)

    def test_heard_of_at_each_clock(self):
        for limit in (1, 2, 3):
            for heard in range(12):
                house = self.settled([((1, 1), opened("bob", limit))])
                for k in range(heard):
                    house.beat()
                    house.hear_of("bob")
                told = [self.ends(house) for _ in range(limit + 4)]
                first = limit + 1 if heard else limit + 2
                self.assertEqual(told.index(["bob"]) + 1, first)

    def test_sorted_each_once(self):
        row = [((1, k + 1), opened(asker, limit)) for k, (asker, limit) in enumerate(
            [("joe", 2), ("bob", 3), ("amy", 2), ("zed", 2), ("cat", 5)])]
        house = self.settled(row, FIVE)
        told = [self.ends(house) for _ in range(10)]
        self.assertEqual(told, [[], [], [], ["amy", "joe", "zed"], ["bob"], [], ["cat"], [], [], []])

    def test_the_letters_of_an_end(self):
        house = self.settled([((1, 1), opened("joe", 1)), ((1, 2), opened("bob", 1))])
        for _ in range(2):
            self.assertEqual(house.beat(), [("done", "ann", "bea", 4, (1, 2)), ("lead", "ann", "cyd", 4)])
        self.assertEqual(house.beat(), [
            ("done", "ann", "bea", 4, (1, 2)), ("lead", "ann", "cyd", 4),
            ("propose", "ann", "bea", 4, (1, 2), (4, 1), ("end", "bob")),
            ("propose", "ann", "bea", 4, (4, 1), (4, 2), ("end", "joe"))])

    def test_not_twice_while_the_end_stands_behind_done(self):
        house = self.settled([((1, 1), opened("bob", 1))])
        house.put(("end", "amy"))
        self.assertEqual([self.ends(house) for _ in range(6)], [[], [], ["bob"], [], [], []])
        house.take(("took", "bea", "ann", 4, (4, 2)))
        self.assertEqual(house.state()[1]["bob"][0], None)
        self.assertEqual([self.ends(house) for _ in range(6)], [[]] * 6)

    def test_again_where_the_end_was_done_and_a_session_stands_anew(self):
        house = self.settled([((1, 1), opened("bob", 1))])
        for _ in range(3):
            house.beat()
        house.put(opened("bob", 4, stamp=2))
        house.take(("took", "bea", "ann", 4, (4, 2)))
        self.assertEqual(house.state()[1]["bob"][0], 4)
        # What was heard of bob, at the first beat, stays: the fifth beat behind it is the sixth.
        self.assertEqual([self.ends(house) for _ in range(5)], [[], [], ["bob"], [], []])

    def test_of_an_elder_session_heard_ahead(self):
        house = self.settled([((1, 1), opened("bob", 9))])
        house.beat()
        house.put(("end", "bob"))
        for _ in range(5):
            house.beat()
        house.put(opened("bob", 3, stamp=2))
        house.take(("took", "bea", "ann", 4, (4, 2)))
        self.assertEqual(self.ends(house), ["bob"])

    def test_a_session_that_is_not_done_yet_or_ended(self):
        house = self.settled([((1, 1), opened("bob", 1)), ((1, 2), ("end", "bob"))])
        house.put(opened("amy", 1))
        self.assertEqual([self.ends(house) for _ in range(9)], [[]] * 9)
        house.take(("took", "bea", "ann", 4, (4, 1)))
        self.assertEqual([self.ends(house) for _ in range(4)], [[], [], ["amy"], []])

    def test_one_that_asked_without_a_session(self):
        house = self.settled([((1, 1), ask(1)), ((1, 2), opened("bob", 1, stamp=1))])
        self.assertEqual(house.state()[1]["bob"][0], None)
        self.assertEqual([self.ends(house) for _ in range(5)], [[]] * 5)

    def test_an_unsettled_head_finds_and_ends_none(self):
        house = self.settled([((1, 1), opened("bob", 1))])
        house.take(("promise", "bea", "ann", 4, (1, 1)))
        self.assertEqual([self.ends(house) for _ in range(5)], [[]] * 5)
        house.take(("synced", "bea", "ann", 4, (1, 1)))
        self.assertEqual(house.clock(), 5)
        self.assertEqual([self.ends(house) for _ in range(4)], [[], [], ["bob"], []])

    def test_what_it_heard_stays_while_it_leads(self):
        house = self.settled([((1, 1), opened("bob", 4))])
        house.beat()
        house.take(("promise", "bea", "ann", 4, (1, 1)))
        for _ in range(5):
            house.beat()
        house.take(("synced", "bea", "ann", 4, (1, 1)))
        self.assertEqual(self.ends(house), ["bob"])

    def test_a_new_head_hears_anew(self):
        house = self.settled([((1, 1), opened("bob", 3))])
        for _ in range(4):
            house.beat()
        house.seek()
        house.take(("promise", "bea", "ann", 5, (1, 1)))
        house.take(("synced", "bea", "ann", 5, (1, 1)))
        self.assertEqual([self.ends(house) for _ in range(6)], [[], [], [], [], ["bob"], []])

    def test_alone_ends_are_done_at_once(self):
        house = leading(members=ONE, epoch=2)
        for k, asker in enumerate(["joe", "bob", "amy"]):
            house.put(opened(asker, 1 if k < 2 else 2))
        for _ in range(2):
            self.assertEqual(house.beat(), [])
            self.assertEqual(len(house.row()), 3)
        self.assertEqual(house.beat(), [])
        self.assertEqual([entry for _, entry in house.done_row()[3:]], [("end", "bob"), ("end", "joe")])
        self.assertEqual(house.beat(), [])
        self.assertEqual([entry for _, entry in house.done_row()[5:]], [("end", "amy")])
        self.assertEqual([session[0] for session in house.state()[1].values()], [None] * 3)
        self.assertEqual(house.beat(), [])
        self.assertEqual(len(house.row()), 6)

    def test_done_within_a_beat(self):
        house = self.settled([((1, 1), opened("bob", 1))])
        house.take(("took", "bea", "ann", 4, (4, 1)))
        for _ in range(2):
            house.beat()
        self.assertEqual(house.beat(), [
            ("done", "ann", "bea", 4, (1, 1)), ("lead", "ann", "cyd", 4),
            ("propose", "ann", "bea", 4, (1, 1), (4, 1), ("end", "bob")), ("done", "ann", "bea", 4, (4, 1))])


if __name__ == "__main__":
    unittest.main()
