"""Point 20: worlds."""

import copy
import unittest

from tests.helper import by_names, spoilt, things
from tests.test_houses import NO_LOOKS, NO_MEMBERS, SEVEN
from tests.test_paths import NO_PATHS, NO_WORDS
from tests.test_readers import shown as shown_reader
from tests.test_askers import behaved as behaved_asker
from tests.test_states import no_deeds
from tests.woven import FIVE, ONE, THREE, ask
from watchednodes.askers import Asker
from watchednodes.errors import Busy, NoAsker, NoDeed, NoHouse, NoLooks, NoMembers, NoNumber, NoWeaving, Stopped
from watchednodes.paths import NOWHERE
from watchednodes.readers import Reader
from watchednodes.worlds import World

OPEN = ("open", 900)
MAKE = ("make", "/a", "t", False, False)
# One deed of each word, of a world in which bob is, and a letter was said.
WOVEN = [("seek", "bea"), ("beat", "ann"), ("stop", "cyd"), ("begin", "bea"), ("give", 0), ("move", "joe", "bea"),
         ("ask", "bob", OPEN), ("again", "bob"), ("read", "bob", "kids", "/", True), ("touch", "bob"), ("hear", "bob")]


def woven(*rows, members=THREE, looks="all"):
    """A world in which these were woven."""
    world = World(members, looks=looks)
    world.weave(list(rows))
    return world


def led(*rows, members=THREE, rounds=4):
    """A world that ann leads and where bob is at her, behind some rounds."""
    world = woven(("seek", "ann"), members=members)
    world.calm(rounds)
    world.weave([("move", "bob", "ann")] + list(rows))
    return world


def shown(world):
    """All that a world tells."""
    askers = {word: (behaved_asker(world.asker(word)), world.unheard(word), world.laid(word)) for word in world.askers()}
    houses = {name: shown_reader(world.house(name)) for name in world.members()}
    return world.members(), world.stopped(), world.letters(), len(world), askers, houses


def behaved(world):
    """What it tells, and what its twin tells behind a round."""
    other = world.twin()
    other.calm(1)
    return shown(world), shown(other)


def one(world, *row):
    """What one deed tells."""
    told = world.weave([row])
    assert len(told) == 1
    return told[0]


class TestMade(unittest.TestCase):

    def test_all_that_is_told_of_a_new_world(self):
        for many in range(1, 8):
            for looks in ("all", "epoch", "none"):
                world = World(SEVEN[:many], looks=looks)
                self.assertEqual((world.members(), world.stopped(), world.askers(), world.letters(), len(world)),
                                 (SEVEN[:many], [], [], [], 0))
                for name in SEVEN[:many]:
                    self.assertIs(type(world.house(name)), Reader)
                    self.assertEqual(shown_reader(world.house(name)), shown_reader(Reader(name, SEVEN[:many])))

    def test_looks_are_those_of_each_house(self):
        for looks, many in (("all", 0), ("epoch", 0), ("none", 1)):
            for world in (World(THREE, looks=looks), World(THREE, looks=looks).twin()):
                world.weave([("seek", "ann"), ("give", 0), ("give", 2), ("give", 3), ("begin", "cyd")])
                self.assertEqual(world.house("bea").house().epoch(), 1)
                numbers = world.weave([("seek", "cyd"), ("seek", "cyd")])[1]
                letter = world.letters()[numbers[1]]
                self.assertEqual(letter, ("seek", "cyd", "bea", 2, 0, NOWHERE))
                self.assertEqual(len(one(world, "give", numbers[1])), many)

    def test_no_members(self):
        for members in NO_MEMBERS + things():
            for looks in ("all", "no", []):
                with self.assertRaises(NoMembers):
                    World(members, looks=looks)

    def test_no_looks(self):
        for looks in NO_LOOKS + things():
            with self.assertRaises(NoLooks):
                World(THREE, looks=looks)

    def test_by_names(self):
        for world in by_names(World, members=THREE, looks="none") + by_names(World, members=THREE):
            self.assertEqual(world.members(), THREE)
        with self.assertRaises(TypeError):
            World(THREE, "all")
        world = World(THREE)
        self.assertEqual(world.weave(rows=[("seek", "ann"), ("move", "bob", "ann")]), [[0, 1], []])
        self.assertIsNone(world.calm(rounds=1))
        self.assertEqual(world.house(name="ann").house().called(), "ann")
        self.assertEqual(world.asker(word="bob").called(), "bob")
        self.assertEqual((world.unheard(word="bob"), world.laid(word="bob")), ([], []))


class TestHouses(unittest.TestCase):

    def test_letters_are_numbered_as_they_were_first_said(self):
        world = World(THREE)
        self.assertEqual(one(world, "seek", "ann"), [0, 1])
        self.assertEqual(one(world, "give", 1), [2])
        self.assertEqual(one(world, "give", 2), [3])
        self.assertEqual(world.letters(), [
            ("seek", "ann", "bea", 1, 0, NOWHERE), ("seek", "ann", "cyd", 1, 0, NOWHERE),
            ("promise", "cyd", "ann", 1, NOWHERE), ("sync", "ann", "cyd", 1, "more", NOWHERE, (), NOWHERE)])
        self.assertEqual(len(world), 4)
        self.assertEqual(world.house("ann").house().role(), "leads")

    def test_letters_said_again_keep_their_numbers(self):
        world = World(THREE)
        world.weave([("seek", "ann"), ("give", 1), ("give", 2)])
        self.assertEqual(one(world, "beat", "ann"), [4, 3])
        self.assertEqual(world.letters()[4], ("lead", "ann", "bea", 1))
        for _ in range(3):
            self.assertEqual(one(world, "beat", "ann"), [4, 3])
        self.assertEqual(len(world), 5)

    def test_a_letter_given_twice(self):
        world = World(THREE)
        world.weave([("seek", "ann"), ("give", 1), ("give", 2)])
        self.assertEqual(one(world, "give", 3), [4])
        self.assertEqual(one(world, "give", 3), [4])
        self.assertEqual(one(world, "give", 1), [])
        self.assertEqual(world.letters()[4], ("synced", "cyd", "ann", 1, NOWHERE))

    def test_beats_of_others_say_nothing(self):
        self.assertEqual(World(THREE).weave([("beat", name) for name in THREE]), [[], [], []])

    def test_stop_and_begin(self):
        world = led(("ask", "bob", OPEN))
        world.calm(2)
        ahead = shown_reader(world.house("ann"))
        self.assertIsNone(one(world, "stop", "ann"))
        self.assertEqual(world.stopped(), ["ann"])
        # A stopped one tells what it told, till it begins.
        self.assertEqual(shown_reader(world.house("ann")), ahead)
        self.assertIsNone(one(world, "begin", "ann"))
        house = world.house("ann")
        self.assertEqual((world.stopped(), house.met(), house.done(), house.house().role()), ([], [], NOWHERE, "seeks"))
        self.assertEqual(house.house().row(), [((1, 1), ("ask", "bob", 1, OPEN))])

    def test_begin_of_one_that_isnt_stopped(self):
        world = led(("ask", "bob", OPEN))
        self.assertIsNone(one(world, "begin", "ann"))
        self.assertEqual((world.stopped(), world.house("ann").met(), world.house("ann").house().promised()), ([], [], 1))

    def test_stopped_are_sorted(self):
        world = woven(("stop", "eve"), ("stop", "bea"), ("stop", "dot"), members=FIVE)
        self.assertEqual(world.stopped(), ["bea", "dot", "eve"])
        one(world, "begin", "dot")
        self.assertEqual(world.stopped(), ["bea", "eve"])

    def test_letters_given_to_a_stopped_house_are_lost(self):
        world = woven(("seek", "ann"), ("stop", "bea"))
        ahead = shown(world)
        self.assertEqual(one(world, "give", 0), [])
        self.assertEqual(shown(world), ahead)
        one(world, "begin", "bea")
        self.assertEqual(one(world, "give", 0), [2])

    def test_letters_of_a_stopped_house_are_given(self):
        world = woven(("seek", "ann"), ("stop", "ann"))
        self.assertEqual(one(world, "give", 0), [2])

    def test_one_alone(self):
        world = World(ONE)
        self.assertEqual(world.weave([("seek", "ann"), ("beat", "ann"), ("move", "bob", "ann"), ("ask", "bob", OPEN),
                                      ("hear", "bob"), ("hear", "bob")]),
                         [[], [], [], [], ("answer", "bob", 1, ("ok", None), (1, 1)), None])
        self.assertEqual(len(world), 0)


class TestAskers(unittest.TestCase):

    def test_move_makes_who_is_new(self):
        world = World(THREE)
        self.assertEqual(one(world, "move", "joe", "bea"), [])
        self.assertEqual(one(world, "move", "bob", "ann"), [])
        self.assertEqual((world.askers(), world.house("ann").met(), world.house("bea").met()),
                         (["bob", "joe"], ["bob"], ["joe"]))
        self.assertEqual((world.asker("bob").at(), world.unheard("bob"), world.laid("bob")), ("ann", [], []))
        self.assertEqual(one(world, "move", "bob", "bea"), [])
        self.assertEqual((world.askers(), world.asker("bob").at(), world.house("bea").met()),
                         (["bob", "joe"], "bea", ["bob", "joe"]))

    def test_each_letter_is_given_to_its_house(self):
        for members in (THREE, FIVE):
            world = led(members=members)
            propose = len(world)
            numbers = one(world, "ask", "bob", OPEN)
            self.assertEqual(numbers, list(range(propose, propose + len(members) - 1)))
            self.assertEqual(world.letters()[propose],
                             ("propose", "ann", "bea", 1, NOWHERE, (1, 1), ("ask", "bob", 1, OPEN)))
            self.assertEqual(one(world, "again", "bob"), [])
            self.assertEqual(one(world, "touch", "bob"), [])
            self.assertEqual(one(world, "read", "bob", "text", "/a", True), [])
            self.assertEqual(world.unheard("bob"), [("told", "bob", 1, None, NOWHERE)])
            world.weave([("move", "bob", "bea")])
            at = len(world)
            self.assertEqual(one(world, "again", "bob"), [at])
            self.assertEqual(one(world, "again", "bob"), [at])
            self.assertEqual(one(world, "touch", "bob"), [at + 1])
            self.assertEqual(world.letters()[at:], [
                ("forward", "bea", "ann", 1, ("ask", "bob", 1, OPEN)), ("touch", "bea", "ann", 1, "bob")])

    def test_again_where_no_ask_is_under_way(self):
        world = led()
        ahead = behaved(world)
        self.assertEqual(one(world, "again", "bob"), [])
        self.assertEqual(behaved(world), ahead)

    def test_the_row_of_letters_is_heard_in_order(self):
        world = led(("ask", "bob", OPEN))
        world.weave([("give", len(world) - 1), ("give", len(world))])
        self.assertEqual(world.unheard("bob"), [("answer", "bob", 1, ("ok", None), (1, 1))])
        world.weave([("read", "bob", "there", "/a", True)])
        world.weave([("ask", "joe", MAKE)] if "joe" in world.askers() else [("move", "joe", "ann"), ("ask", "joe", MAKE)])
        row = [("answer", "bob", 1, ("ok", None), (1, 1)), ("told", "bob", 1, False, (1, 1))]
        self.assertEqual(world.unheard("bob"), row)
        self.assertEqual(world.weave([("hear", "bob")] * 3), row + [None])
        self.assertEqual((world.unheard("bob"), world.asker("bob").heard()), ([], [
            ("answer", 1, OPEN, ("ok", None), (1, 1)), ("told", 1, "there", "/a", False, (1, 1))]))

    def test_what_isnt_taken_is_told_too(self):
        world = led(("read", "bob", "there", "/", False), ("read", "bob", "kids", "/", False))
        self.assertEqual(world.weave([("hear", "bob")] * 3), [
            ("told", "bob", 1, True, NOWHERE), ("told", "bob", 2, (), NOWHERE), None])
        self.assertEqual([thing[0] for thing in world.asker("bob").reads()], [2])

    def test_a_letter_of_a_house_that_isnt_its_own_is_lost(self):
        world = led(("read", "bob", "there", "/a", True), ("hear", "bob"), ("ask", "bob", OPEN))
        world.weave([("move", "bob", "cyd"), ("move", "joe", "ann"), ("ask", "joe", OPEN)])
        self.assertEqual(world.house("ann").waiting(), [("bob", 1), ("joe", 1)])
        world.calm(0)
        for name in THREE[1:]:
            for number, letter in enumerate(world.letters()):
                if letter[0] == "propose" and letter[2] == name:
                    for took in one(world, "give", number):
                        world.weave([("give", took)])
        self.assertEqual(world.house("ann").done(), (1, 2))
        self.assertEqual(world.house("ann").waiting(), [])
        self.assertEqual((world.unheard("bob"), world.unheard("joe")), ([], [("answer", "joe", 1, ("ok", None), (1, 2))]))

    def test_the_row_is_lost_at_a_move(self):
        for house in ("ann", "bea"):
            world = led(("read", "bob", "there", "/", True), ("touch", "bob"))
            self.assertEqual(len(world.unheard("bob")), 1)
            one(world, "move", "bob", house)
            self.assertEqual(world.unheard("bob"), [])
            self.assertIsNone(one(world, "hear", "bob"))

    def test_the_late_of_a_move_is_in_its_row(self):
        world = led(("ask", "bob", OPEN))
        world.calm(2)
        self.assertEqual(world.asker("bob").seen(), (1, 1))
        world.weave([("begin", "cyd"), ("read", "bob", "there", "/", False), ("move", "bob", "cyd")])
        self.assertEqual(world.unheard("bob"), [("late", "bob")])

    def test_at_a_stopped_house_all_is_lost(self):
        world = led(("stop", "ann"))
        ahead = shown_reader(world.house("ann"))
        self.assertEqual(world.weave([("ask", "bob", OPEN), ("again", "bob"), ("touch", "bob"),
                                      ("read", "bob", "there", "/", True), ("hear", "bob"), ("move", "joe", "ann")]),
                         [[], [], [], [], None, []])
        self.assertEqual(shown_reader(world.house("ann")), ahead)
        asker = world.asker("bob")
        self.assertEqual((asker.is_busy(), asker.again(), world.laid("bob")), (True, ("ask", "bob", 1, OPEN), [1]))
        self.assertEqual(world.askers(), ["bob", "joe"])

    def test_laid(self):
        world = led()
        for number, watch in enumerate((True, False, True, True, False)):
            self.assertEqual(one(world, "read", "bob", ("text", "there", "kids")[number % 3], "/x", watch), [])
        self.assertEqual(world.laid("bob"), [1, 3, 4])
        world.weave([("move", "bob", "bea"), ("read", "bob", "kids", "/", True), ("move", "joe", "bea")])
        self.assertEqual((world.laid("bob"), world.laid("joe")), ([1, 3, 4, 6], []))

    def test_words_of_houses_and_askers_may_be_alike(self):
        world = led(("move", "ann", "ann"), ("move", "bea", "ann"), ("ask", "ann", OPEN))
        world.calm(2)
        self.assertEqual((world.askers(), world.asker("ann").answers()), (
            ["ann", "bea", "bob"], [(1, OPEN, ("ok", None), (1, 1))]))


class TestRefused(unittest.TestCase):

    def check(self, error, row, thing=None, *, world=None, has_thing=True):
        """What is refused ends a weaving; what was done ahead stands, what is behind isn't done."""
        world = led() if world is None else world
        ahead, first = world.twin(), ("move", "amy", "cyd")
        ahead.weave([first])
        with self.assertRaises(error) as caught:
            world.weave([first, row, ("seek", "bea"), ("move", "zoe", "ann")])
        self.assertIs(type(caught.exception), error)
        if has_thing:
            self.assertIs(caught.exception.thing, thing)
        self.assertEqual(behaved(world), behaved(ahead))

    def test_no_house(self):
        for name in ["dot", "", "Ann", "bob", THREE, ["ann"], {"ann"}, ("ann",)] + NO_WORDS + things():
            for word in ("seek", "beat", "stop", "begin"):
                self.check(NoHouse, (word, name), name)
            self.check(NoHouse, ("move", "bob", name), name)
            self.check(NoHouse, ("move", "new", name), name)

    def test_no_asker(self):
        for word in ["joe", "ann", "", "Bob", ["bob"], {"bob"}, ("bob",)] + NO_WORDS + things():
            for row in (("ask", word, OPEN), ("again", word), ("touch", word), ("hear", word),
                        ("read", word, "text", "/a", True)):
                self.check(NoAsker, row, word)
            self.check(NoAsker, ("ask", word, None), word)
        for word in NO_WORDS + ["bob-000001", ["bob"], ("bob",)] + things():
            for name in ("ann", "dot", None, []):
                self.check(NoAsker, ("move", word, name), word)

    def test_no_number(self):
        many = len(led())
        for number in [many, many + 1, -1, 10 ** 29, True, False, None, "0", (0,), [0], 0.0, {}]:
            self.check(NoNumber, ("give", number), number)
        for thing in things():
            if not isinstance(thing, int) or thing is True or thing is False:
                self.check(NoNumber, ("give", thing), thing)
        with self.assertRaises(NoNumber) as caught:
            World(THREE).weave([("give", 0)])
        self.assertEqual(caught.exception.thing, 0)

    def test_stopped(self):
        for word in ("seek", "beat", "stop"):
            world = led(("stop", "bea"), ("stop", "ann"))
            name = "an" + "n"
            self.check(Stopped, (word, name), name, world=world)
        self.assertEqual(one(led(("stop", "ann")), "begin", "ann"), None)

    def test_no_deed_then_busy(self):
        world = led()
        ahead = behaved(world)
        for deed in no_deeds():
            with self.assertRaises(NoDeed):
                world.weave([("ask", "bob", deed)])
        self.assertEqual(behaved(world), ahead)
        for deed in (None, [], ("open", 0)):
            self.check(NoDeed, ("ask", "bob", deed), world=led(("ask", "bob", OPEN)), has_thing=False)
        self.check(Busy, ("ask", "bob", OPEN), world=led(("ask", "bob", OPEN)), has_thing=False)
        for world in (led(("stop", "ann"), ("ask", "bob", OPEN)), led(("ask", "bob", OPEN), ("stop", "ann"))):
            self.check(NoDeed, ("ask", "bob", None), world=world.twin(), has_thing=False)
            self.check(Busy, ("ask", "bob", OPEN), world=world, has_thing=False)

    def test_what_is_told_of_no_house_and_no_asker(self):
        world = led()
        ahead = shown(world)
        for name in ["dot", "", "bob", ["ann"], {"ann"}] + things():
            with self.assertRaises(NoHouse) as caught:
                world.house(name)
            self.assertIs(caught.exception.thing, name)
        for word in ["joe", "", "ann", ["bob"], {"bob"}] + things():
            for told in (world.asker, world.unheard, world.laid):
                with self.assertRaises(NoAsker) as caught:
                    told(word)
                self.assertIs(caught.exception.thing, word)
        self.assertEqual(shown(world), ahead)


class TestNoWeaving(unittest.TestCase):

    def check(self, where, rows):
        world = led()
        ahead = behaved(world)
        with self.assertRaises(NoWeaving) as caught:
            world.weave(rows)
        self.assertEqual(caught.exception.where, where)
        self.assertEqual(behaved(world), ahead)

    def test_good_ones(self):
        self.assertEqual(World(THREE).weave([]), [])
        world = led()
        rows = list(WOVEN)
        told = world.weave(rows)
        self.assertEqual((len(told), rows), (len(WOVEN), WOVEN))
        for row in WOVEN:
            led().weave([row])

    def test_no_list(self):
        for rows in [tuple(WOVEN), (), ("seek", "ann"), {"seek": "ann"}, {("seek", "ann")}, "seek", iter(WOVEN)]:
            self.check(None, rows)
        for thing in things():
            if not isinstance(thing, list):
                self.check(None, thing)

    def test_the_first_that_is_none(self):
        for bad in things() + [("sing", "ann"), ("seek",), ("seek", "ann", "bea"), ["seek", "ann"], "seek", ("Seek", "ann")]:
            self.check(0, [bad])
            self.check(2, [("seek", "bea"), ("seek", "cyd"), bad, ("seek",)])
            # It is looked for ahead of what is refused.
            self.check(1, [("seek", "nobody"), bad])

    def test_how_many_things(self):
        for row in WOVEN:
            for bad in (row[:-1], row + (None,), row + ("ann",), row[:1], (row,), list(row), row[0], set(row),
                        (row[0].upper(),) + row[1:], (list(row[:1]),) + row[1:], ({},) + row[1:], (None,) + row[1:]):
                self.check(0, [bad])

    def test_of_a_read_its_kind_path_and_truth(self):
        for kind in ["", "Text", "texts", b"text", ["text"], ("text",)] + things():
            self.check(0, [("read", "bob", kind, "/a", True)])
        for path in NO_PATHS + things():
            self.check(0, [("read", "bob", "text", path, True)])
        for watch in (0, 1, None, "yes", "", (), [True]):
            self.check(0, [("read", "bob", "text", "/a", watch)])
        self.check(0, spoilt(("read", "bob", "text", "/a", True), ("other",) * 5)[-1:])

    def test_other_things_are_no_matter_of_form(self):
        for row, error in ((("seek", None), NoHouse), (("give", None), NoNumber), (("give", True), NoNumber),
                           (("ask", "bob", None), NoDeed), (("hear", []), NoAsker), (("move", [], {}), NoAsker),
                           (("read", {}, "text", "/a", True), NoAsker)):
            with self.assertRaises(error):
                led().weave([row])


class TestCalm(unittest.TestCase):

    def test_no_round(self):
        world = led(("seek", "bea"))
        ahead = behaved(world)
        self.assertIsNone(world.calm(0))
        self.assertEqual(behaved(world), ahead)

    def test_one_round(self):
        world = woven(("seek", "ann"))
        world.calm(1)
        # Only what was said ahead is given; of two promises none is given as yet.
        self.assertEqual([letter[0] for letter in world.letters()], ["seek", "seek", "promise", "promise"])
        world.calm(1)
        # The first promise lets her lead, the second is one more; behind that is her beat.
        self.assertEqual([letter[:3] for letter in world.letters()[4:]], [("sync", "ann", "bea"), ("sync", "ann", "cyd")])
        self.assertEqual(world.house("ann").house().clock(), 1)
        world.calm(1)
        self.assertEqual([letter[:3] for letter in world.letters()[6:]], [
            ("synced", "bea", "ann"), ("synced", "cyd", "ann")])
        self.assertEqual((world.house("ann").house().clock(), world.house("ann").house().is_settled()), (2, False))
        world.calm(1)
        self.assertEqual(world.house("ann").house().synced(), ["ann", "bea", "cyd"])

    def test_rounds_are_alike_at_once_and_one_by_one(self):
        for rows in ([("seek", "ann")], [("seek", "cyd"), ("seek", "ann")], WOVEN[:2] + [("move", "bob", "bea")]):
            one_by_one, at_once = woven(*rows), woven(*rows)
            for _ in range(6):
                one_by_one.calm(1)
            at_once.calm(6)
            self.assertEqual(behaved(one_by_one), behaved(at_once))

    def test_letters_said_since_the_last_round_began_each_once(self):
        world = woven(("seek", "ann"), ("give", 0), ("give", 0), ("give", 1), ("give", 2), ("give", 4))
        letters = world.letters()
        by_hand = world.twin()
        for number in range(len(letters)):
            by_hand.weave([("give", number)])
        for name in THREE:
            by_hand.weave([("beat", name)])
        world.calm(1)
        self.assertEqual(world.letters(), by_hand.letters())
        for name in THREE:
            self.assertEqual(shown_reader(world.house(name)), shown_reader(by_hand.house(name)))

    def test_letters_said_again_are_given_in_the_order_first_said_since(self):
        world = woven(("seek", "ann"))
        world.calm(3)
        self.assertEqual(world.house("ann").house().is_settled(), False)
        # By ann's beat both syncs are said again; bea's is said once more; so the row is 4, 5, 6, 7.
        by_hand = world.twin()
        self.assertEqual(world.letters()[4][:3], ("sync", "ann", "bea"))
        for number in (6, 7, 4, 5):
            by_hand.weave([("give", number)])
        for name in THREE:
            by_hand.weave([("beat", name)])
        world.calm(1)
        self.assertEqual(world.letters(), by_hand.letters())
        self.assertEqual(shown(world)[-1], shown(by_hand)[-1])

    def test_order_of_those_said_again(self):
        # Two that seek: who is asked first gets the promise, whichever letter was numbered first.
        world = woven(("seek", "ann"), ("seek", "cyd"))
        self.assertEqual([letter[:3] for letter in world.letters()], [
            ("seek", "ann", "bea"), ("seek", "ann", "cyd"), ("seek", "cyd", "ann"), ("seek", "cyd", "bea")])
        world.calm(1)
        self.assertEqual([letter[:3] for letter in world.letters()[4:]], [("promise", "bea", "ann")])

    def test_nothing_is_given_again_that_wasnt_said_since(self):
        world = woven(("seek", "ann"), ("stop", "cyd"))
        world.calm(1)
        world.weave([("begin", "cyd")])
        world.calm(1)
        self.assertEqual((world.house("ann").house().role(), world.house("cyd").house().promised()), ("leads", 0))
        self.assertEqual(world.letters()[-1], ("lead", "ann", "cyd", 1))
        world.calm(1)
        self.assertEqual(world.house("cyd").house().promised(), 1)

    def test_beats_in_the_members_order(self):
        world = woven(("seek", "bea"), ("give", 0), ("give", 1), ("give", 2), members=("cyd", "bea", "ann"))
        letters = world.twin()
        self.assertEqual(world.house("bea").house().role(), "leads")
        letters.calm(2)
        self.assertEqual(letters.house("bea").house().clock(), 2)
        self.assertEqual(letters.house("ann").house().clock(), 0)

    def test_stopped_houses_dont_beat_and_take_nothing(self):
        world = led(("stop", "ann"), ("stop", "bea"))
        clock, bea = world.house("ann").house().clock(), shown_reader(world.house("bea"))
        world.weave([("seek", "cyd")])
        world.calm(5)
        self.assertEqual((world.house("ann").house().clock(), shown_reader(world.house("bea"))), (clock, bea))
        self.assertEqual(world.house("cyd").house().role(), "seeks")
        world.weave([("begin", "ann"), ("begin", "bea")])
        world.calm(5)
        self.assertEqual(world.house("cyd").house().role(), "seeks")
        world.weave([("seek", "cyd")])
        world.calm(5)
        self.assertEqual(world.house("cyd").house().is_settled(), True)

    def test_rows_are_heard_through(self):
        world = led(("move", "amy", "ann"), ("ask", "bob", OPEN), ("ask", "amy", OPEN))
        for word in ("bob", "amy"):
            world.weave([("read", word, "there", "/", True), ("read", word, "kids", "/", True)])
        world.calm(1)
        for word in ("bob", "amy"):
            self.assertEqual((world.unheard(word), len(world.asker(word).reads())), ([], 1))
        world.calm(1)
        for word in ("bob", "amy"):
            self.assertEqual((world.unheard(word), len(world.asker(word).answers())), ([], 1))

    def test_a_stopped_houses_letters_are_heard_through_too(self):
        world = led(("read", "bob", "there", "/", False), ("stop", "ann"))
        world.calm(1)
        self.assertEqual((world.unheard("bob"), len(world.asker("bob").reads())), ([], 1))


class TestTold(unittest.TestCase):

    def ready(self):
        world = led(("ask", "bob", OPEN), ("read", "bob", "there", "/a", True), ("move", "amy", "bea"))
        world.calm(2)
        world.weave([("ask", "bob", MAKE), ("read", "amy", "kids", "/", True), ("stop", "cyd")])
        return world

    def test_all_is_new(self):
        world = self.ready()
        ahead = copy.deepcopy(behaved(world))
        for thing in (world.letters(), world.askers(), world.stopped(), world.unheard("amy"), world.laid("amy")):
            self.assertIs(type(thing), list)
            self.assertGreaterEqual(len(thing), 1)
            thing.clear()
            thing.append("x")
        self.assertIs(type(world.members()), tuple)
        self.assertEqual(behaved(world), ahead)
        told = world.twin().weave([("seek", "ann"), ("beat", "ann")])
        other = world.twin()
        for numbers in other.weave([("seek", "ann"), ("beat", "ann")]):
            numbers.clear()
        self.assertEqual(world.weave([("seek", "ann"), ("beat", "ann")]), told)

    def test_houses_and_askers_are_twins(self):
        world = self.ready()
        ahead = behaved(world)
        house, asker = world.house("ann"), world.asker("bob")
        self.assertEqual((type(house), type(asker)), (Reader, Asker))
        house.begin_anew()
        house.seek()
        asker.move("cyd")
        asker.read("text", "/", watch=True)
        self.assertEqual(behaved(world), ahead)
        house, asker = world.house("ann"), world.asker("bob")
        kept = shown_reader(house), behaved_asker(asker)
        world.weave([("begin", "ann"), ("seek", "ann"), ("move", "bob", "bea"), ("read", "bob", "text", "/", True)])
        self.assertEqual((shown_reader(house), behaved_asker(asker)), kept)

    def test_twin(self):
        for rows in ([], [("seek", "bea")], [("begin", "cyd"), ("hear", "amy"), ("move", "zoe", "bea")]):
            world = self.ready()
            world.weave(rows)
            ahead = behaved(world)
            other = world.twin()
            self.assertIs(type(other), World)
            self.assertEqual(behaved(other), ahead)
            other.weave([("begin", "cyd"), ("read", "amy", "text", "/", True), ("move", "joe", "ann"), ("seek", "bea"),
                         ("move", "bob", "bea"), ("stop", "ann")])
            other.calm(2)
            self.assertEqual(behaved(world), ahead)
            other = world.twin()
            world.weave([("begin", "cyd"), ("read", "amy", "text", "/", True), ("move", "joe", "ann"), ("seek", "bea"),
                         ("move", "bob", "bea"), ("stop", "ann")])
            world.calm(2)
            self.assertEqual(behaved(other), ahead)

    def test_a_twin_is_calmed_alike(self):
        for rounds in range(5):
            world = woven(("seek", "ann"), ("move", "bob", "bea"))
            world.calm(rounds)
            world.weave([("ask", "bob", OPEN)])
            other = world.twin()
            for one_of_them in (world, other):
                one_of_them.calm(3)
            self.assertEqual(shown(other), shown(world))
            self.assertGreater(len(world), 4)

    def test_rows_handed_in_stay(self):
        rows = list(WOVEN)
        world = led()
        world.weave(rows)
        self.assertEqual(rows, WOVEN)
        rows.clear()
        self.assertEqual(world.askers(), ["bob", "joe"])

    def test_letters_between_houses_alone_are_in_the_post(self):
        world = self.ready()
        words = {letter[0] for letter in world.letters()}
        self.assertTrue(words <= {"seek", "promise", "lead", "sync", "lack", "synced", "propose", "took", "done",
                                  "forward", "touch"})
        self.assertEqual(len(world.letters()), len(set(world.letters())))
        self.assertIn(("propose", "ann", "bea", 1, NOWHERE, (1, 1), ask(1, deed=OPEN)), world.letters())


if __name__ == "__main__":
    unittest.main()
