"""Point 25: the desk."""

import unittest

from tests.helper import by_names, things
from tests.test_paths import NO_PATHS, NO_WORDS
from tests.test_texts import NO_ENTRY_ROWS, NO_NUMBERS, PAIRS
from watchednodes.desk import Desk
from watchednodes.errors import Busy, NoAsker, NoDeskRow, NoHouse, NoMembers, NoNumber, NoWorld, Stopped
from watchednodes.texts import read_nodes, read_row, show_nodes, show_row
from watchednodes.worlds import World

THREE = "ann bea cyd"
# Rows, with what each tells.
SAID = [
    ("world " + THREE, "ok"), ("seek ann", "0,1"), ("give 0", "2"), ("give 2", "3"), ("give 3", "4"), ("give 4", "-"),
    ("at ann", "leads 1 1 0.0"), ("at bea", "follows 1 1 0.0"), ("at cyd", "seeks 0 0 0.0"), ("row ann", "-"),
    ("state ann", "/ 0 0 - 0 "), ("move bob ann", "-"), ("ask bob open 10", "5"), ("give 5", "6"), ("give 6", "7"),
    ("hear bob", "answer"), ("hear bob", "-"), ("ask bob make /a no no 3 x y", "8"), ("again bob", "-"), ("give 8", "9"),
    ("give 9", "10"), ("hear bob", "answer"), ("state ann", "/ 0 1 - 0 ; /a 0 0 - 3 x y"), ("state bea", "/ 0 0 - 0 "),
    ("row ann", "1.1 bob.1 open 10; 1.2 bob.2 make /a no no 3 x y"), ("row bea", "-"), ("at ann", "leads 1 1 1.2"), ("give 10", "-"),
    ("at bea", "follows 1 1 1.2"), ("row bea", "1.1 bob.1 open 10; 1.2 bob.2 make /a no no 3 x y"), ("beat ann", "10,11"),
    ("beat bea", "-"), ("read bob text /a yes", "-"), ("hear bob", "told"), ("read bob kids / no", "-"), ("move amy bea", "-"),
    ("touch amy", "12"), ("touch bob", "-"), ("ask amy all 2 see / - put /a 0 0 ", "13"), ("again amy", "13"), ("stop cyd", "ok"),
    ("at cyd", "stopped 0 0 0.0"), ("give 1", "-"), ("begin cyd", "ok"), ("at cyd", "seeks 0 0 0.0"), ("give 1", "14"), ("begin ann", "ok"),
    ("at ann", "seeks 1 1 0.0"), ("hear bob", "told"), ("read bob there / no", "-"), ("hear bob", "late"), ("calm 3", "ok"),
    ("seek bea", "16,17")]


def at_desk(*rows):
    """A desk at which these were said."""
    desk = Desk()
    for row in rows:
        desk.say(row)
    return desk


def led():
    """A desk with a world that ann leads, bob at her."""
    return at_desk("world " + THREE, "seek ann", "calm 4", "move bob ann", "ask bob open 900", "calm 2")


def shown(desk):
    """What is shown of a desk's houses, and what is said when it goes on; the desk goes on by that."""
    told = [desk.say(f"{word} {house}") for word in ("at", "state", "row") for house in THREE.split()]
    told.extend([desk.say(row) for row in ("hear bob", "again bob", "beat ann", "seek bea", "calm 1", "give 3", "hear bob")])
    return told + [desk.say(f"{word} {house}") for word in ("at", "state", "row") for house in THREE.split()]


class Said(unittest.TestCase):

    def refused(self, error, *rows, desk=None, thing=None, has_thing=False):
        """Rows are refused, and nothing is changed by them."""
        desk = led() if desk is None else desk
        for row in rows:
            with self.assertRaises(error, msg=repr(row)) as caught:
                desk.say(row)
            self.assertIs(type(caught.exception), error)
            if has_thing:
                self.assertEqual(caught.exception.thing, thing)
                self.assertIs(type(caught.exception.thing), type(thing))
        return desk


class TestSay(Said):

    def test_each_row(self):
        desk = Desk()
        for row, told in SAID:
            found = desk.say(row)
            self.assertEqual(found, told, row)
            self.assertIs(type(found), str)

    def test_as_a_world_tells_it(self):
        desk, world = led(), World(("ann", "bea", "cyd"))
        world.weave([("seek", "ann")])
        world.calm(4)
        world.weave([("move", "bob", "ann"), ("ask", "bob", ("open", 900))])
        world.calm(2)
        for text, entry in PAIRS:
            if entry[0] == "ask" and entry[1] == "bob" and entry[3][0] != "open":
                told = world.weave([("ask", "bob", entry[3])])[0]
                self.assertEqual(desk.say("ask bob " + text.partition(" ")[2]), ",".join([str(k) for k in told]))
                world.calm(3)
                desk.say("calm 3")
        for name in ("ann", "bea", "cyd"):
            house = world.house(name).house()
            self.assertEqual(desk.say("state " + name), show_nodes(house.state()[0]).replace("\n", "; "))
            self.assertEqual(desk.say("row " + name), show_row(house.done_row()).replace("\n", "; "))
            self.assertEqual(read_nodes(desk.say("state " + name).replace("; ", "\n")), house.state()[0])
            self.assertEqual(read_row(desk.say("row " + name).replace("; ", "\n")), house.done_row())
            self.assertEqual(desk.say("at " + name),
                             f"{house.role()} {house.promised()} {house.epoch()} {house.done()[0]}.{house.done()[1]}")
        self.assertGreater(len(world.house("ann").house().done_row()), 9)

    def test_by_names(self):
        self.assertEqual(by_names(Desk().say, row="world ann"), ["ok"])

    def test_a_world_in_anothers_stead(self):
        desk = led()
        self.assertEqual(desk.say("world bea dot"), "ok")
        self.assertEqual(desk.say("at bea"), "seeks 0 0 0.0")
        self.refused(NoHouse, "at ann", desk=desk, thing="ann", has_thing=True)
        self.refused(NoAsker, "hear bob", desk=desk, thing="bob", has_thing=True)
        self.refused(NoNumber, "give 0", desk=desk, thing=0, has_thing=True)

    def test_worlds_of_one_to_seven(self):
        names = ["ann", "bea", "cyd", "dot", "eve", "fay", "gus"]
        for many in range(1, 8):
            desk = at_desk("world " + " ".join(names[:many]))
            told = [desk.say("at " + name) for name in names[:many]]
            self.assertEqual(told, ["seeks 0 0 0.0"] * many)
            self.assertEqual(desk.say("seek ann"), ",".join([str(k) for k in range(many - 1)]) or "-")
            self.assertEqual(desk.say("at ann"), "leads 1 1 0.0" if many == 1 else "seeks 1 0 0.0")

    def test_two_desks_apart(self):
        one, other = led(), led()
        one.say("seek bea")
        one.say("stop cyd")
        self.assertEqual(shown(other), shown(led()))
        self.refused(NoWorld, "at ann", desk=Desk())

    def test_calm_from_one_to_two_hundred(self):
        for rounds in (1, 2, 10, 199, 200):
            desk = at_desk("world ann", "seek ann")
            self.assertEqual(desk.say(f"calm {rounds}"), "ok")
            world = World(("ann",))
            world.weave([("seek", "ann"), ("move", "bob", "ann")])
            world.calm(rounds)
            self.assertEqual(world.house("ann").house().clock(), rounds)
            desk.say("move bob ann")
            desk.say("ask bob open 1")
            # The session ends by the second beat behind, however many were ahead.
            desk.say("calm 1")
            self.assertEqual(desk.say("row ann"), "1.1 bob.1 open 1")
            desk.say("calm 1")
            self.assertEqual(desk.say("row ann"), "1.1 bob.1 open 1; 1.2 end bob")
        self.refused(NoDeskRow, "calm 0", "calm 201", "calm 1000", "calm -1", "calm 01", "calm", "calm ", "calm 1 1", "calm x",
                     "calm 99999999999999999999")

    def test_words_of_letters_heard(self):
        desk = led()
        for row, word in (("read bob there /a yes", "told"), ("ask bob make /a no no 0 ", "event")):
            desk.say(row)
            if word == "event":
                for _ in range(2):
                    number = int(desk.say("beat ann").split(",")[0])
                    self.give_all(desk, number)
            self.assertEqual(desk.say("hear bob"), word)
        self.assertEqual(desk.say("hear bob"), "answer")
        desk.say("begin bea")
        desk.say("move bob bea")
        self.assertEqual(desk.say("hear bob"), "late")
        self.assertEqual(desk.say("hear bob"), "-")

    def give_all(self, desk, number):
        try:
            while True:
                desk.say(f"give {number}")
                number += 1
        except NoNumber:
            pass


class TestNoDeskRow(Said):

    def check(self, *rows):
        for desk in (Desk(), led()):
            self.refused(NoDeskRow, *rows, desk=desk)
        self.assertEqual(shown(desk), shown(led()))

    def test_of_anything(self):
        self.check(*[thing for thing in things() if not isinstance(thing, str)])
        self.check("", " ", "\n", "-", "no such thing", "\u00e4", b"at ann", ["at", "ann"], ("at", "ann"), ("seek", "ann"))

    def test_by_its_signs(self):
        for row, _ in SAID:
            self.check(row + " ", " " + row, row + "\n", "\n" + row, row.replace(" ", "  ", 1), row.replace(" ", "\t", 1),
                       row.replace(" ", "\n", 1), row.upper(), row.partition(" ")[0], row.partition(" ")[0] + " ", row[1:],
                       "x" + row, row + " -")
            if not row.startswith(("world", "ask")):
                self.check(row + " ann", row + " 1", row + " x y")

    def test_words(self):
        for word in NO_WORDS + ["bob-000001", "/", "1", "-", "yes1"]:
            if " " not in word and word != "":
                for row in ("seek {}", "beat {}", "stop {}", "begin {}", "again {}", "touch {}", "hear {}", "state {}", "row {}", "at {}",
                            "move {} ann", "move bob {}", "ask {} open 1", "ask {} bring", "read {} text / no", "world {}", "world ann {}",
                            "world {} ann"):
                    self.check(row.format(word))

    def test_no_things_of_a_world(self):
        self.check("world", "world ", "world  ann", "world ann ", "world ann  bea", "World ann", "world ann,bea")

    def test_numbers(self):
        for number in NO_NUMBERS + ["-", "None"]:
            self.check(f"give {number}", f"calm {number}")
        self.check("give", "give 1 2", "give 1,2")

    def test_reads(self):
        for path in NO_PATHS:
            self.check(f"read bob text {path} no")
        for kind in ("", "Text", "made", "texts", "-", "texttherekids", "tex"):
            self.check(f"read bob {kind} / no")
        for watch in ("", "Yes", "0", "1", "-", "true", "yesno", "ye", "n"):
            self.check(f"read bob text / {watch}")
        self.check("read bob text /", "read bob / text no", "read bob text no /", "read text / no", "read bob text / no no")

    def test_asks(self):
        for row in NO_ENTRY_ROWS:
            if row.startswith("bob.1 "):
                self.check("ask bob " + row.partition(" ")[2])
        self.check("ask bob", "ask bob ", "ask", "ask open 5", "ask bob.1 open 5", "ask bob end bob", "ask bob bring bring",
                   "ask bob put /a - 2 a\n", "ask bob make /a no no 1 \n")

    def test_moves(self):
        self.check("move bob", "move", "move ann", "move bob ann bea", "move bob  ann")


class TestRefused(Said):

    def test_no_world(self):
        desk = Desk()
        self.refused(NoWorld, *[row for row, _ in SAID[1:]], desk=desk)
        self.refused(NoWorld, "at nobody", "give 99", "hear nobody", "ask bob close", "calm 200", desk=desk)
        # What the points refuse of a world comes ahead of any world being kept.
        self.refused(NoMembers, "world ann ann", desk=desk)
        self.refused(NoWorld, "at ann", desk=desk)

    def test_no_members(self):
        desk = self.refused(NoMembers, "world ann ann", "world ann bea ann", "world a b c d e f g h", "world a b c d e f g h i",
                            "world a b c d e f g a")
        self.assertEqual(shown(desk), shown(led()))

    def test_no_house(self):
        for word in ("seek", "beat", "stop", "begin", "state", "row", "at", "move bob", "move new"):
            for name in ("dot", "bob", "an", "anna"):
                desk = self.refused(NoHouse, f"{word} {name}", thing=name, has_thing=True)
        self.assertEqual(shown(desk), shown(led()))

    def test_no_asker(self):
        for row in ("ask {} bring", "again {}", "touch {}", "hear {}", "read {} text / no"):
            for name in ("joe", "ann", "bo"):
                desk = self.refused(NoAsker, row.format(name), thing=name, has_thing=True)
        self.assertEqual(shown(desk), shown(led()))

    def test_no_number(self):
        for number in (1000, 10 ** 20):
            desk = self.refused(NoNumber, f"give {number}", thing=number, has_thing=True)
        self.assertEqual(shown(desk), shown(led()))

    def test_stopped_and_busy(self):
        desk = led()
        desk.say("stop cyd")
        self.refused(Stopped, "seek cyd", "beat cyd", "stop cyd", desk=desk, thing="cyd", has_thing=True)
        desk.say("begin cyd")
        desk.say("ask bob bring")
        self.refused(Busy, "ask bob bring", "ask bob open 5", "ask bob make /a no no 0 ", desk=desk)
        self.refused(NoDeskRow, "ask bob make / no no 0 ", desk=desk)
        other = led()
        for row in ("stop cyd", "begin cyd", "ask bob bring"):
            other.say(row)
        self.assertEqual(shown(desk), shown(other))


if __name__ == "__main__":
    unittest.main()
