"""Point 3: of each of (a) to (k) a weaving, or a row, that would show it broken."""

import unittest

from tests.test_weak import head_of, lost
from tests.test_world_weavings import MAKE, OPEN, Weaver
from tests.woven import FIVE, THREE
from watchednodes.errors import Late
from watchednodes.houses import most_of
from watchednodes.judging import are_beginnings, first_amiss
from watchednodes.nodes import kids_of
from watchednodes.recipes import Fence, lock_of
from watchednodes.rows import is_beginning, state_of, told_by, up_to
from watchednodes.texts import read_entry, read_nodes, read_row, show_entry, show_nodes, show_row
from watchednodes.weak import HOUSES, losing, unfenced
from watchednodes.worlds import World

TURN = ("make", "/lock/turn", "", True, True)


class TestWhole(unittest.TestCase):

    def begun(self, members=THREE, askers=("bob", "joe")):
        """The first of these leads, the askers have sessions at the first and the last one."""
        weaver = Weaver(self, members)
        weaver.weave("seek", members[0])
        weaver.calm(4)
        for k, word in enumerate(askers):
            weaver.weave("move", word, members[-k % len(members)])
            weaver.weave("ask", word, OPEN)
        weaver.calm(5)
        return weaver

    def asks(self, weaver, word, deed, rounds=5):
        """An ask that is answered: told is the answer."""
        weaver.weave("ask", word, deed)
        weaver.calm(rounds)
        return weaver.world.asker(word).answers()[-1][2]

    def give_from(self, weaver, many):
        """All letters from a number on are given, and those said at these, but none said ahead."""
        while many < len(weaver.world):
            weaver.weave("give", many)
            many += 1

    def done_rows(self, weaver):
        return [weaver.world.house(name).house().done_row() for name in weaver.members]

    def test_a_one_row_of_which_each_done_row_is_a_beginning(self):
        weaver = self.begun(FIVE)
        rows = []
        for k, name in enumerate(("bea", "cyd", "dot", "eve", "ann", "cyd")):
            weaver.weave("ask", "bob", ("put", "/", str(k), None))
            weaver.weave("seek", name)
            weaver.calm(2)
            weaver.weave("ask", "joe", ("put", "/", str(k), None))
            weaver.calm(3)
            for word in ("bob", "joe"):
                weaver.weave("move", word, name)
                weaver.weave("again", word)
            weaver.calm(4)
            rows.extend(self.done_rows(weaver))
            self.assertTrue(are_beginnings(rows))
        self.assertEqual(max(rows, key=len), weaver.row)
        self.assertGreater(len({place[0] for place, _ in weaver.row}), 2)
        weaver.judge()

    def test_b_what_was_told_done_is_in_the_row_of_each_later_head(self):
        for first in THREE[1:]:
            weaver = self.begun()
            many = len(weaver.world)
            weaver.weave("ask", "bob", MAKE)
            took = [number for number, letter in enumerate(weaver.world.letters()) if number >= many and letter[2] == first]
            weaver.weave("give", took[0])
            weaver.weave("give", len(weaver.world) - 1)
            self.assertEqual(weaver.row[-1][1][3], MAKE)
            weaver.weave("stop", "ann")
            for name in THREE[1:] * 2:
                many = len(weaver.world)
                weaver.weave("seek", name)
                self.give_from(weaver, many)
                house = weaver.world.house(name).house()
                self.assertEqual(house.is_settled(), name == first or MAKE in [entry[3] for _, entry in house.row()])
                if house.is_settled():
                    self.assertTrue(is_beginning(weaver.row, house.row()))

    def test_b_what_a_fallen_head_alone_had_is_done_at_all_or_at_none(self):
        weaver = self.begun()
        weaver.weave("ask", "bob", MAKE)
        weaver.weave("stop", "ann")
        many = len(weaver.world)
        weaver.weave("seek", "bea")
        self.give_from(weaver, many)
        weaver.weave("begin", "ann")
        weaver.calm(6)
        self.assertEqual(self.done_rows(weaver), [weaver.row] * 3)
        self.assertNotIn(MAKE, [entry[3] for _, entry in weaver.row])

    def test_c_asks_are_done_once_in_order_and_reads_dont_go_back(self):
        weaver = self.begun()
        for k, name in enumerate(THREE * 2):
            weaver.weave("ask", "bob", ("put", "/", str(k), None))
            for other in THREE:
                weaver.weave("move", "bob", other)
                weaver.weave("again", "bob")
                weaver.weave("again", "bob")
            weaver.weave("seek", name)
            weaver.calm(2)
            weaver.settle()
            weaver.weave("move", "bob", THREE[(k + 1) % 3])
            weaver.weave("again", "bob")
            weaver.calm(4)
            weaver.weave("read", "bob", "text", "/", False)
            weaver.calm(1)
        bob = weaver.world.asker("bob")
        self.assertEqual([answer[2] for answer in bob.answers()[1:]], [("ok", k + 1) for k in range(6)])
        self.assertEqual([read[3] for read in bob.reads()], [(str(k), k + 1) for k in range(6)])
        self.assertIsNone(first_amiss(weaver.row, "bob", bob.heard(), weaver.world.laid("bob")))
        self.assertEqual([entry[2] for _, entry in weaver.row if entry[:2] == ("ask", "bob")], list(range(1, 8)))

    def test_d_a_watcher_is_told_once_ahead_of_later_reads_and_none_is_missed(self):
        for other in THREE:
            weaver = self.begun()
            weaver.weave("read", "bob", "there", "/a", True)
            weaver.weave("hear", "bob")
            weaver.weave("move", "bob", other)
            self.asks(weaver, "joe", MAKE)
            weaver.weave("begin", other)
            weaver.calm(3)
            many = len(weaver.row)
            weaver.weave("move", "bob", other)
            weaver.weave("read", "bob", "there", "/a", True)
            weaver.calm(4)
            weaver.weave("move", "bob", THREE[0])
            weaver.weave("read", "bob", "there", "/a", False)
            weaver.calm(1)
            bob = weaver.world.asker("bob")
            self.assertEqual(bob.events(), [("there", "/a", "made", weaver.row[many - 1][0])])
            self.assertEqual([thing[0] for thing in bob.heard() if thing[0] != "answer"][:2], ["told", "event"])
            weaver.judge()

    def test_e_a_sessions_nodes_go_once_and_all_or_none_is_one_place(self):
        weaver = self.begun()
        for path in ("/m", "/n", "/o"):
            self.asks(weaver, "bob", ("make", path, "", True, False))
        self.assertEqual(self.asks(weaver, "joe", ("all", (MAKE, ("drop", "/m", None), ("drop", "/x", None)))), ("no", "lacks", 2))
        self.asks(weaver, "bob", ("close",))
        gone = {place: [path for word, path in events if word == "gone"] for place, _, events in told_by(weaver.row)}
        self.assertEqual([paths for paths in gone.values() if paths], [["/m", "/n", "/o"]])
        self.assertEqual(list(weaver.world.house("cyd").state()[0]), ["/"])
        weaver.judge()

    def test_f_the_lock_has_one_holder_at_each_place(self):
        askers = ("bob", "cat", "joe")
        weaver = self.begun(askers=askers)
        self.asks(weaver, "bob", ("make", "/lock", "", False, False))
        own, fence, writes = {}, Fence(), []
        for k in range(12):
            word = askers[k % 3]
            if word in own:
                self.assertEqual(self.asks(weaver, word, ("drop", own.pop(word), None), 4), ("ok", None))
            else:
                own[word] = self.asks(weaver, word, TURN, 4)[1]
            weaver.weave("seek", THREE[k % 3])
            weaver.calm(5)
            for asker in askers:
                weaver.weave("move", asker, THREE[k % 3])
        for place, _ in weaver.row:
            kids = kids_of(state_of(up_to(weaver.row, place))[0], "/lock")
            holders = [told for told in [lock_of(kids or [], part) for part in kids or []] if told[0] == "holds"]
            self.assertEqual(len(holders), 1 if kids else 0)
            writes.extend([number for _, number in holders])
        for number in writes:
            fence.write(number, "x")
        self.assertEqual(len(fence), len(writes))
        self.assertGreater(len(set(writes)), 4)
        for number in sorted(set(writes))[:-1]:
            with self.assertRaises(Late):
                fence.write(number, "late")

    def test_f_without_the_number_two_hold_it(self):
        world = World(HOUSES)
        world.weave(unfenced())
        told = []
        for word in ("first", "second"):
            asker = world.asker(word)
            told.append(lock_of(asker.reads()[-1][3], asker.answers()[-1][2][1].rpartition("/")[2]))
        self.assertEqual([word for word, _ in told], ["holds", "holds"])
        self.assertLess(told[0][1], told[1][1])

    def test_g_one_brought_up_has_a_beginning_of_the_heads_row(self):
        weaver = self.begun(FIVE)
        for name in ("dot", "eve"):
            weaver.weave("stop", name)
        for k in range(4):
            self.asks(weaver, "bob", ("put", "/", str(k), None))
        weaver.weave("begin", "dot")
        many = len(weaver.world)
        weaver.weave("seek", "bea")
        while many < len(weaver.world):
            letter = weaver.world.letters()[many]
            weaver.weave("give", many)
            many += 1
            house = weaver.world.house(letter[2]).house()
            if letter[0] == "sync":
                head = weaver.world.house(letter[1]).house()
                self.assertTrue(house.epoch() != letter[3] or is_beginning(house.row(), head.row()))
        self.assertEqual(weaver.world.house("dot").house().row(), weaver.world.house("bea").house().row())
        self.assertEqual(weaver.world.house("dot").done(), weaver.row[-1][0])

    def test_h_what_fewer_than_most_took_isnt_done(self):
        for many in (2, 3, 4, 5):
            members = FIVE[:many]
            weaver = self.begun(members)
            ahead = list(weaver.row)
            there = most_of(members) - 1
            for name in members[there:]:
                weaver.weave("stop", name)
            weaver.weave("move", "bob", members[0])
            weaver.weave("ask", "bob", MAKE)
            weaver.calm(6)
            for name in members[:there]:
                weaver.weave("seek", name)
                weaver.calm(3)
            self.assertEqual(weaver.row, ahead)
            self.assertTrue(weaver.world.asker("bob").is_busy())
            weaver.answer_all()
            self.assertIn(MAKE, [entry[3] for _, entry in weaver.row if entry[0] == "ask"])

    def test_i_by_an_election_that_looks_at_less_what_was_done_is_lost(self):
        for looks in ("epoch", "none", "all"):
            world = World(HOUSES, looks=looks)
            world.weave(losing("none" if looks == "all" else looks))
            self.assertEqual(lost(world) == [], looks == "all")
            self.assertEqual(head_of(world).epoch(), 1 if looks == "all" else 2)

    def test_j_each_ask_is_answered_at_last(self):
        for many in range(1, 6):
            members = FIVE[:many]
            weaver = self.begun(members)
            weaver.weave("ask", "bob", MAKE)
            weaver.weave("ask", "joe", ("put", "/", "x", 0))
            for name in members[:many - most_of(members)]:
                weaver.weave("stop", name)
            # Who sought first may lack what another one took meanwhile: then that one leads.
            there = members[many - most_of(members):]
            for name in there + there:
                if not any([weaver.world.house(other).house().is_settled() for other in there]):
                    weaver.weave("seek", name)
                    weaver.calm(5)
            for name in there:
                for word in ("bob", "joe"):
                    weaver.weave("move", word, name)
                    weaver.weave("again", word)
                weaver.calm(5)
            self.assertFalse(weaver.world.asker("bob").is_busy() or weaver.world.asker("joe").is_busy())
            weaver.judge()

    def test_k_what_is_written_is_read_back(self):
        weaver = self.begun(askers=("bob", "joe"))
        for deed in (("make", "/a", " x\\ ", False, False), ("make", "/a/b", "", True, True), ("put", "/a", "2 y", 0), ("see", "/", None),
                     ("all", (("put", "/a", "", 1), ("make", "/c", "-", False, True), ("drop", "/a/b-000000", None))), ("bring",)):
            self.asks(weaver, "bob", deed)
        self.asks(weaver, "joe", ("close",))
        self.assertEqual(read_row(show_row(weaver.row)), weaver.row)
        self.assertEqual(state_of(read_row(show_row(weaver.row))), state_of(weaver.row))
        for place, entry in weaver.row:
            self.assertEqual(read_entry(show_entry(entry)), entry)
            nodes = state_of(up_to(weaver.row, place))[0]
            self.assertEqual(read_nodes(show_nodes(nodes)), nodes)


if __name__ == "__main__":
    unittest.main()
