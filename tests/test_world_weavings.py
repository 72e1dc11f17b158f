"""Of point 3 (a) to (e), (g), (h), (j): weavings of worlds, written out and made by a reckoning without chance."""

import unittest

from tests.helper import Reckoned
from tests.test_watchers import MET_BY
from tests.woven import FIVE, THREE
from watchednodes.errors import Busy, NoNumber, Stopped
from watchednodes.houses import most_of
from watchednodes.judging import are_beginnings, first_amiss
from watchednodes.paths import NOWHERE
from watchednodes.rows import is_beginning, told_by
from watchednodes.watchers import KINDS
from watchednodes.worlds import World

ASKERS = ("bob", "cat", "joe")
PATHS = ("/", "/a", "/a/b", "/l", "/l/n-000000", "/m")
OPEN = ("open", 900)
MAKE = ("make", "/a", "t", False, False)
DEEDS = (
    MAKE, MAKE, ("make", "/l", "", False, False), ("make", "/l/n", "", True, True), ("make", "/m", "", True, False),
    ("make", "/a/b", "", False, False), ("put", "/a", "u", None), ("put", "/", "v", None), ("put", "/a", "w", 1),
    ("drop", "/a", None), ("drop", "/a/b", None), ("drop", "/l/n-000000", None), ("see", "/m", None), ("bring",), ("close",),
    OPEN, OPEN, ("open", 3), ("all", (("make", "/a/b", "x", False, False), ("put", "/a/b", "y", 0), ("drop", "/a", None))),
    ("all", (("put", "/", "x", None), ("put", "/l", "y", None))))


class Weaver:
    """A world that is woven deed by deed, and what must hold throughout."""

    def __init__(self, test, members, *, looks="all"):
        self.test = test
        self.world = World(members, looks=looks)
        self.members = members
        # The longest row that was known done anywhere, and how far each house's went since its last stop.
        self.row = []
        self.done = {name: NOWHERE for name in members}
        # Each asker's deeds in the order asked, all deeds that were woven, and what they told.
        self.asked = {}
        self.woven = []
        self.told = []

    def weave(self, *row):
        """One deed, or nothing where it is refused."""
        try:
            told = self.world.weave([row])
        except (Busy, Stopped, NoNumber):
            return
        self.told.extend(told)
        self.woven.append(row)
        if row[0] == "ask":
            self.asked.setdefault(row[1], []).append(row[2])
        if row[0] == "begin":
            self.done[row[1]] = NOWHERE
        self.look()

    def calm(self, rounds):
        for _ in range(rounds):
            self.world.calm(1)
            self.woven.append(("calm", 1))
            self.look()

    def look(self):
        """One row is done; no house's done goes back; what is done most houses have; a head has it all."""
        houses = [self.world.house(name).house() for name in self.members]
        for house in houses:
            done_row = house.done_row()
            self.test.assertTrue(are_beginnings([done_row, self.row]))
            self.row = max(self.row, done_row, key=len)
            self.test.assertGreaterEqual(house.done(), self.done[house.called()])
            self.done[house.called()] = house.done()
        if self.row:
            have = [house for house in houses if self.row[-1] in house.row()]
            self.test.assertGreaterEqual(len(have), most_of(self.members))
        heads = [house for house in houses if house.is_settled()]
        if heads:
            head = max(heads, key=lambda house: house.epoch())
            self.test.assertEqual(len([house for house in heads if house.epoch() == head.epoch()]), 1)
            if head.epoch() == max([house.epoch() for house in houses]):
                self.test.assertTrue(is_beginning(self.row, head.row()))

    def judge(self):
        """Nothing is amiss in what was heard; each ask was done once at most, in the order asked."""
        for word in self.world.askers():
            asker = self.world.asker(word)
            self.test.assertIsNone(first_amiss(self.row, word, asker.heard(), self.world.laid(word)))
            asks = [entry for _, entry in self.row if entry[:2] == ("ask", word)]
            self.test.assertEqual([entry[2:] for entry in asks],
                                  list(enumerate(self.asked.get(word, []), start=1))[:len(asks)])
            self.check_changes(word, asker)

    def check_changes(self, word, asker):
        """By plain counting: places read don't go back, a watcher is told once, ahead of later reads."""
        places = [thing[-1] for thing in asker.heard() if thing[0] != "answer"]
        self.test.assertEqual(places, sorted(places))
        changes = [(place, event) for place, _, events in told_by(self.row) for event in events]
        for kind, path, word, place in asker.events():
            self.test.assertIn((place, (word, path)), changes)
        reads = [read[-1] for read in asker.reads()]
        for kind, path, place in asker.watchers():
            met = [at for at, (event, changed) in changes if at > place and changed == path and event in MET_BY[kind]]
            self.test.assertFalse(met and met[0] <= reads[-1])

    def settle(self):
        """All houses are there: one of them comes to lead, and most are synced."""
        for name in self.world.stopped():
            self.weave("begin", name)
        self.calm(6)
        for k in range(40):
            name = self.members[k % len(self.members)]
            self.weave("seek", name)
            self.calm(5)
            if self.world.house(name).house().is_settled():
                return name
        raise AssertionError("none leads")

    def answer_all(self):
        """Each ask is answered at last, asked again behind a move."""
        head = self.settle()
        for word in self.world.askers():
            for name in (head, self.members[-1]):
                for _ in range(3):
                    self.weave("move", word, name)
                    self.weave("again", word)
                    self.calm(3)
            self.test.assertFalse(self.world.asker(word).is_busy(), word)
        self.judge()


def first_rounds(weaver, reckoned):
    """A head is there, and each asker has a session."""
    weaver.weave("seek", reckoned.one_of(weaver.members))
    weaver.calm(4)
    for word in ASKERS:
        weaver.weave("move", word, reckoned.one_of(weaver.members))
        weaver.weave("ask", word, reckoned.one_of((OPEN, OPEN, ("open", 4))))
    weaver.calm(4)


def one_deed(weaver, reckoned):
    """One more deed, as it is reckoned."""
    which = reckoned.below(100)
    word, name = reckoned.one_of(ASKERS), reckoned.one_of(weaver.members)
    if which < 35:
        many = len(weaver.world)
        weaver.weave("give", max(0, many - 1 - reckoned.below(1 + reckoned.below(24))))
    elif which < 52:
        weaver.weave("ask", word, reckoned.one_of(DEEDS))
    elif which < 68:
        weaver.weave("read", word, reckoned.one_of(KINDS), reckoned.one_of(PATHS), reckoned.below(4) > 0)
    elif which < 76:
        weaver.weave("hear", word)
    elif which < 88:
        weaver.calm(1 + reckoned.below(3))
    elif which < 90:
        weaver.weave("beat", name)
    elif which < 94:
        weaver.weave("move", word, name)
        weaver.weave(reckoned.one_of(("again", "touch", "again")), word)
    elif which < 97:
        weaver.weave(reckoned.one_of(("again", "touch")), word)
    elif which == 97:
        weaver.weave("begin", name)
    elif which == 98 and len(weaver.world.stopped()) * 2 + 2 < len(weaver.members):
        weaver.weave("stop", name)
    else:
        for stopped in weaver.world.stopped():
            weaver.weave("begin", stopped)
        weaver.weave("seek", name)


def reckoned_weaver(test, many, seed, deeds=320):
    weaver, reckoned = Weaver(test, FIVE[:many]), Reckoned(seed)
    first_rounds(weaver, reckoned)
    for _ in range(deeds):
        one_deed(weaver, reckoned)
    return weaver


class TestReckoned(unittest.TestCase):

    def weave(self, many, seeds):
        events = answers = entries = 0
        for seed in seeds:
            with self.subTest(many=many, seed=seed):
                weaver = reckoned_weaver(self, many, seed)
                weaver.judge()
                weaver.answer_all()
                askers = [weaver.world.asker(word) for word in ASKERS]
                events += sum([len(asker.events()) for asker in askers])
                answers += sum([len(asker.answers()) for asker in askers])
                entries += len(weaver.row)
                self.assertEqual([len(asker.answers()) for asker in askers],
                                 [len(weaver.asked[word]) for word in ASKERS])
        # Weavings in which hardly anything comes about would show little.
        self.assertGreater(entries, 10 * len(seeds))
        self.assertGreater(answers, 9 * len(seeds))
        self.assertGreater(events, len(seeds))

    def test_one_house(self):
        self.weave(1, range(4))

    def test_two_houses(self):
        self.weave(2, range(10, 16))

    def test_three_houses(self):
        self.weave(3, range(20, 36))

    def test_four_houses(self):
        self.weave(4, range(40, 46))

    def test_five_houses(self):
        self.weave(5, range(50, 60))


def renamed(thing, names):
    """A thing with other words within it."""
    if isinstance(thing, str):
        return names.get(thing, thing)
    if isinstance(thing, (list, tuple)):
        return type(thing)([renamed(part, names) for part in thing])
    if isinstance(thing, dict):
        return {renamed(key, names): renamed(value, names) for key, value in thing.items()}
    return thing


class TestOtherWords(unittest.TestCase):

    NAMES = {"ann": "house", "bea": "housf", "cyd": "housg", "dot": "housh", "eve": "housi",
             "bob": "x", "cat": "xa", "joe": "y"}

    def test_the_same_is_told_so_called(self):
        for many, seed in ((1, 3), (2, 5), (3, 7), (3, 8), (5, 9)):
            weaver = reckoned_weaver(self, many, seed, 120)
            other = World(renamed(FIVE[:many], self.NAMES))
            told = []
            for row in weaver.woven:
                if row[0] == "calm":
                    other.calm(row[1])
                else:
                    told.extend(other.weave([renamed(row, self.NAMES)]))
            self.assertEqual(told, renamed(weaver.told, self.NAMES))
            world = weaver.world
            self.assertEqual(other.letters(), renamed(world.letters(), self.NAMES))
            self.assertEqual(other.stopped(), renamed(world.stopped(), self.NAMES))
            self.assertEqual(other.askers(), renamed(world.askers(), self.NAMES))
            for word in world.askers():
                one, two = world.asker(word), other.asker(self.NAMES[word])
                for said in ("heard", "watchers", "seen", "at", "is_busy", "again"):
                    self.assertEqual(getattr(two, said)(), renamed(getattr(one, said)(), self.NAMES))
                self.assertEqual(other.laid(self.NAMES[word]), world.laid(word))
            for name in world.members():
                one, two = world.house(name), other.house(self.NAMES[name])
                for said in ("watchers", "waiting", "met", "state", "done"):
                    self.assertEqual(getattr(two, said)(), renamed(getattr(one, said)(), self.NAMES))
                self.assertEqual(two.house().row(), renamed(one.house().row(), self.NAMES))


class TestWrittenOut(unittest.TestCase):

    def begun(self, members=THREE):
        """ann leads, bob is at her, joe at bea, both have sessions."""
        weaver = Weaver(self, members)
        weaver.weave("seek", "ann")
        weaver.calm(4)
        for word, name in (("bob", "ann"), ("joe", members[1] if len(members) > 1 else "ann")):
            weaver.weave("move", word, name)
            weaver.weave("ask", word, OPEN)
        weaver.calm(5)
        for word in ("bob", "joe"):
            self.assertFalse(weaver.world.asker(word).is_busy())
        return weaver

    def give(self, weaver, word, name=None):
        """The last letters of this word are given, those to a house alone where it is told."""
        told = {letter[2]: number for number, letter in enumerate(weaver.world.letters()) if letter[0] == word}
        for to, number in told.items():
            if name is None or to == name:
                weaver.weave("give", number)

    def give_from(self, weaver, many):
        """All letters from a number on are given, and those said at these."""
        while many < len(weaver.world):
            weaver.weave("give", many)
            many += 1

    def seek(self, weaver, name):
        """A house is elected while nothing that was said ahead is given."""
        many = len(weaver.world)
        weaver.weave("seek", name)
        self.give_from(weaver, many)
        self.assertTrue(weaver.world.house(name).house().is_settled())

    def test_each_ask_is_answered_wherever_it_is_asked(self):
        for many in range(1, 6):
            weaver = self.begun(FIVE[:many])
            for k, name in enumerate(weaver.members):
                weaver.weave("move", "bob", name)
                weaver.weave("ask", "bob", ("put", "/", "t", None))
                weaver.calm(6)
                self.assertEqual(weaver.world.asker("bob").answers()[-1][2], ("ok", k + 1))
            weaver.judge()
            self.assertEqual(weaver.world.asker("bob").seen(), weaver.row[-1][0])

    def test_an_ask_that_is_asked_at_every_house_is_done_once(self):
        weaver = self.begun(FIVE)
        weaver.weave("ask", "bob", ("make", "/l", "", False, True))
        for name in FIVE + FIVE:
            weaver.weave("move", "bob", name)
            weaver.weave("again", "bob")
        weaver.calm(6)
        weaver.weave("again", "bob")
        weaver.calm(6)
        self.assertEqual(weaver.world.asker("bob").answers()[-1][2], ("ok", "/l-000000"))
        self.assertEqual(len([entry for _, entry in weaver.row if entry[3][0] == "make"]), 1)
        weaver.judge()

    def test_behind_a_fallen_head_an_ask_is_asked_again(self):
        weaver = self.begun()
        weaver.weave("ask", "bob", MAKE)
        weaver.weave("stop", "ann")
        self.seek(weaver, "bea")
        weaver.weave("move", "bob", "bea")
        weaver.weave("again", "bob")
        weaver.calm(5)
        self.assertEqual(weaver.world.asker("bob").answers()[-1][1:3], (MAKE, ("ok", "/a")))
        # What the fallen head alone had is done at no house, also when it comes back.
        weaver.weave("begin", "ann")
        weaver.calm(6)
        self.assertEqual(weaver.world.house("ann").house().row(), weaver.row)
        self.assertEqual([entry[3] for _, entry in weaver.row].count(MAKE), 1)
        weaver.judge()

    def test_what_a_fallen_head_alone_had_may_be_lost(self):
        weaver = self.begun()
        weaver.weave("ask", "bob", MAKE)
        weaver.weave("stop", "ann")
        self.seek(weaver, "bea")
        weaver.weave("ask", "joe", ("make", "/m", "", False, False))
        weaver.calm(4)
        weaver.weave("begin", "ann")
        weaver.calm(6)
        self.assertNotIn(MAKE, [entry[3] for _, entry in weaver.world.house("ann").house().row()])
        self.assertEqual(weaver.world.house("ann").done(), weaver.row[-1][0])
        weaver.judge()

    def test_what_most_took_is_never_lost(self):
        weaver = self.begun()
        weaver.weave("ask", "bob", MAKE)
        self.give(weaver, "propose", "cyd")
        self.give(weaver, "took")
        self.assertEqual(weaver.row[-1][1][3], MAKE)
        weaver.weave("stop", "ann")
        # bea lacks it, so cyd's promise isn't hers.
        weaver.weave("seek", "bea")
        weaver.calm(6)
        self.assertFalse(weaver.world.house("bea").house().is_settled())
        weaver.weave("seek", "cyd")
        weaver.calm(6)
        self.assertTrue(weaver.world.house("cyd").house().is_settled())
        self.assertIn(MAKE, [entry[3] for _, entry in weaver.world.house("bea").house().done_row()])
        weaver.answer_all()

    def test_without_most_houses_nothing_is_done(self):
        weaver = self.begun(FIVE)
        for name in ("cyd", "dot", "eve"):
            weaver.weave("stop", name)
        ahead = list(weaver.row)
        weaver.weave("ask", "bob", MAKE)
        weaver.weave("ask", "joe", MAKE)
        weaver.calm(8)
        weaver.weave("seek", "bea")
        weaver.calm(8)
        self.assertEqual(weaver.row, ahead)
        self.assertTrue(weaver.world.asker("bob").is_busy() and weaver.world.asker("joe").is_busy())
        weaver.weave("begin", "dot")
        weaver.answer_all()

    def test_a_change_behind_laying_is_told_behind_a_move(self):
        for other in ("bea", "cyd", "ann"):
            weaver = self.begun()
            weaver.weave("read", "bob", "there", "/a", True)
            weaver.weave("read", "joe", "there", "/a", True)
            for word in ("bob", "joe"):
                weaver.weave("hear", word)
            weaver.weave("ask", "joe", MAKE)
            weaver.calm(4)
            self.assertEqual(weaver.world.asker("bob").events(), [("there", "/a", "made", weaver.row[-1][0])])
            self.assertEqual(weaver.world.asker("joe").events(), weaver.world.asker("bob").events())
            weaver.weave("read", "bob", "text", "/a", True)
            weaver.weave("hear", "bob")
            self.assertEqual(len(weaver.world.asker("bob").watchers()), 1)
            many = len(weaver.world)
            weaver.weave("ask", "joe", ("put", "/a", "u", None))
            self.give_from(weaver, many)
            self.assertEqual(weaver.world.unheard("bob"), [("event", "bob", "text", "/a", "text", weaver.row[-1][0])])
            # bob's event is lost with his row of letters, but he is told behind his move.
            weaver.weave("move", "bob", other)
            weaver.weave("read", "bob", "text", "/a", False)
            weaver.calm(1)
            self.assertEqual(weaver.world.asker("bob").events()[1:], [("text", "/a", "text", weaver.row[-1][0])])
            self.assertEqual(weaver.world.asker("bob").watchers(), [])
            weaver.judge()

    def test_a_change_is_told_behind_a_stop_too(self):
        weaver = self.begun()
        weaver.weave("read", "bob", "there", "/a", True)
        weaver.weave("hear", "bob")
        weaver.weave("stop", "ann")
        weaver.weave("seek", "bea")
        weaver.calm(5)
        weaver.weave("ask", "joe", MAKE)
        weaver.calm(5)
        weaver.weave("begin", "ann")
        weaver.calm(5)
        self.assertEqual(weaver.world.asker("bob").events(), [])
        weaver.weave("read", "bob", "there", "/a", False)
        weaver.calm(1)
        self.assertEqual([thing[0] for thing in weaver.world.asker("bob").reads()], [1])
        weaver.weave("move", "bob", "ann")
        weaver.weave("read", "bob", "there", "/a", False)
        weaver.calm(1)
        place = weaver.row[-1][0]
        self.assertEqual(weaver.world.asker("bob").heard()[-2:], [
            ("event", "there", "/a", "made", place), ("told", 3, "there", "/a", True, place)])
        weaver.judge()

    def test_reads_dont_go_back_behind_a_move(self):
        weaver = self.begun()
        weaver.weave("stop", "cyd")
        weaver.weave("ask", "bob", MAKE)
        weaver.calm(4)
        weaver.weave("begin", "cyd")
        weaver.weave("read", "bob", "there", "/a", False)
        weaver.weave("hear", "bob")
        self.assertEqual(weaver.world.asker("bob").reads()[-1][3:], (True, weaver.row[-1][0]))
        # cyd, who just began, knows nothing done: she tells bob nothing elder.
        weaver.weave("move", "bob", "cyd")
        weaver.weave("read", "bob", "there", "/a", False)
        self.assertEqual(weaver.world.unheard("bob"), [("late", "bob"), ("late", "bob")])
        weaver.calm(6)
        weaver.weave("move", "bob", "cyd")
        weaver.weave("read", "bob", "there", "/a", False)
        weaver.calm(1)
        self.assertEqual(weaver.world.asker("bob").reads()[-1][3:], (True, weaver.row[-1][0]))
        weaver.judge()

    def test_a_sessions_nodes_go_once_at_one_place(self):
        weaver = self.begun()
        weaver.weave("move", "cat", "cyd")
        weaver.weave("ask", "cat", ("open", 9))
        weaver.calm(5)
        weaver.weave("ask", "cat", ("make", "/l", "", True, True))
        weaver.calm(5)
        weaver.weave("read", "joe", "there", "/l-000000", True)
        weaver.calm(20)
        ends = [placed for placed in weaver.row if placed[1][0] == "end"]
        self.assertEqual([entry for _, entry in ends], [("end", "cat")])
        self.assertEqual(weaver.world.asker("joe").events(), [("there", "/l-000000", "gone", ends[0][0])])
        self.assertEqual(list(weaver.world.house("cyd").state()[0]), ["/"])
        weaver.judge()

    def test_deeds_of_all_or_none_are_one_place(self):
        weaver = self.begun()
        weaver.weave("ask", "bob", ("all", (MAKE, ("put", "/a", "u", 0), ("make", "/a/b", "", False, False))))
        weaver.calm(4)
        weaver.weave("ask", "bob", ("all", (("drop", "/a/b", None), ("put", "/a", "v", 0))))
        weaver.calm(4)
        self.assertEqual([answer[2] for answer in weaver.world.asker("bob").answers()[1:]],
                         [("ok", ("/a", 1, "/a/b")), ("no", "count", 1)])
        self.assertEqual([len(events) for _, _, events in told_by(weaver.row)][-2:], [5, 0])
        weaver.judge()


if __name__ == "__main__":
    unittest.main()
