"""Point 19: askers."""

import copy
import unittest

from tests.helper import Stranger, by_names, nested, spoilt, things
from tests.test_letters import NO_PLACES
from tests.test_paths import NO_PATHS, NO_WORDS, WORDS
from tests.test_states import DEEDS, no_deeds
from watchednodes.askers import Asker
from watchednodes.errors import Busy, NoAsker, NoDeed
from watchednodes.paths import NOWHERE

UNHASHABLE = [[], {}, set(), [1], {"a": 1}, {1}, ([],), ({},), (set(),), ((1, [2]),), [()], {"a": []}, nested(11)]
MET_BY = {"text": ("text", "gone"), "there": ("made", "text", "gone"), "kids": ("kids", "gone")}
DEED = ("make", "/a", "t", False, True)


def shown(asker):
    """All that an asker tells of itself."""
    return (asker.called(), asker.at(), asker.seen(), asker.is_busy(), asker.again(), asker.watchers(), asker.heard(),
            asker.answers(), asker.reads(), asker.events())


def behaved(asker):
    """What it tells, and what its twins tell when they go on."""
    read, moved, busy = asker.twin(), asker.twin(), asker.twin()
    busy.hear(answer(1))
    busy.hear(answer(2))
    letter = read.read("kids", "/")
    taken = asker.twin().hear(told(letter[2] - 1))
    return shown(asker), letter, taken, moved.move("zed"), None if busy.is_busy() else busy.ask(("bring",))


def answer(stamp, *, value=("ok", None), place=(1, 1), word="bob"):
    return ("answer", word, stamp, value, place)


def told(number, *, value=("t", 0), place=(1, 1), word="bob"):
    return ("told", word, number, value, place)


def event(kind, path, word, *, place=(1, 2), asker="bob"):
    return ("event", asker, kind, path, word, place)


def at_ann():
    asker = Asker("bob")
    asker.move("ann")
    return asker


def watching(*watchers):
    """bob with these watchers, laid by reads."""
    asker = at_ann()
    for k, (kind, path, place) in enumerate(watchers):
        asker.read(kind, path, watch=True)
        asker.hear(told(k + 1, place=place))
    return asker


class TestMade(unittest.TestCase):

    def test_all_that_is_told_of_a_new_asker(self):
        for word in WORDS:
            asker = Asker(word)
            self.assertEqual(shown(asker), (word, None, NOWHERE, False, None, [], [], [], [], []))
            self.assertIs(asker.is_busy(), False)

    def test_no_asker(self):
        for word in NO_WORDS + ["bob-000001", "/bob", ("bob",), ["bob"], {"bob"}] + things():
            with self.assertRaises(NoAsker) as caught:
                Asker(word)
            self.assertIs(caught.exception.thing, word)

    def test_by_names(self):
        self.assertEqual(by_names(Asker, word="bob")[0].called(), "bob")
        asker = at_ann()
        self.assertEqual(asker.twin().move(house="bea"), asker.twin().move("bea"))
        self.assertEqual(asker.twin().ask(deed=DEED), asker.twin().ask(DEED))
        letters = by_names(lambda **named: asker.twin().read(**named), kind="text", path="/a", watch=True)
        self.assertEqual(letters, [("read", "bob", 1, "text", "/a", True, NOWHERE)] * 6)
        self.assertEqual(asker.read(path="/a", kind="there")[5], False)
        with self.assertRaises(TypeError):
            asker.read("text", "/a", True)
        asker.ask(DEED)
        self.assertIs(asker.hear(letter=answer(1)), True)


class TestMove(unittest.TestCase):

    def test_first_and_again(self):
        asker = Asker("bob")
        for house in ("ann", "ann", "bea", "ann"):
            self.assertEqual(asker.move(house), ("again", "bob", (), NOWHERE))
            self.assertEqual(asker.at(), house)

    def test_watchers_sorted_with_their_places(self):
        laid = [("there", "/b", (1, 1)), ("text", "/b", (1, 2)), ("kids", "/", (1, 2)), ("text", "/a", (2, 4)),
                ("there", "/a", (2, 4))]
        asker = watching(*laid)
        for house in ("ann", "bea", "bea"):
            self.assertEqual(asker.move(house), ("again", "bob", tuple(sorted(laid)), (2, 4)))
            self.assertEqual((asker.watchers(), asker.seen(), asker.at()), (sorted(laid), (2, 4), house))

    def test_the_read_under_way_is_given_up(self):
        for house in ("ann", "bea"):
            asker = at_ann()
            asker.read("text", "/a", watch=True)
            asker.move(house)
            ahead = shown(asker)
            self.assertIs(asker.hear(told(1)), False)
            self.assertEqual(shown(asker), ahead)
            self.assertEqual(asker.read("text", "/b"), ("read", "bob", 2, "text", "/b", False, NOWHERE))
            self.assertIs(asker.hear(told(1)), False)
            self.assertIs(asker.hear(told(2)), True)

    def test_the_ask_under_way_stays(self):
        for house in ("ann", "bea"):
            asker = at_ann()
            letter = asker.ask(DEED)
            asker.move(house)
            self.assertEqual((asker.is_busy(), asker.again()), (True, letter))
            self.assertIs(asker.hear(answer(1)), True)

    def test_what_was_heard_stays(self):
        asker = watching(("text", "/a", (1, 1)), ("there", "/b", (1, 2)))
        asker.ask(DEED)
        asker.hear(answer(1))
        ahead = shown(asker)
        asker.move("ann")
        self.assertEqual(shown(asker), ahead)


class TestAsk(unittest.TestCase):

    def test_stamps(self):
        asker = at_ann()
        for k, deed in enumerate(DEEDS):
            self.assertEqual(asker.ask(deed), ("ask", "bob", k + 1, deed))
            self.assertIs(asker.is_busy(), True)
            self.assertIs(asker.hear(answer(k + 1, place=(1, k + 1))), True)
            self.assertEqual((asker.is_busy(), asker.again(), asker.seen()), (False, None, (1, k + 1)))

    def test_no_deed_ahead_of_busy(self):
        for is_busy in (False, True):
            asker = watching(("text", "/a", (1, 1)))
            if is_busy:
                asker.ask(DEED)
            ahead = behaved(asker)
            for deed in no_deeds():
                with self.assertRaises(NoDeed):
                    asker.ask(deed)
            self.assertEqual(behaved(asker), ahead)

    def test_busy(self):
        asker = at_ann()
        asker.ask(DEED)
        ahead = behaved(asker)
        for deed in (DEED, ("bring",), ("close",)):
            with self.assertRaises(Busy):
                asker.ask(deed)
        self.assertEqual(behaved(asker), ahead)
        asker.hear(answer(1))
        self.assertEqual(asker.ask(("bring",)), ("ask", "bob", 2, ("bring",)))

    def test_again(self):
        asker = at_ann()
        self.assertIsNone(asker.again())
        letter = asker.ask(DEED)
        for _ in range(3):
            self.assertEqual(asker.again(), letter)
        asker.hear(answer(1))
        self.assertIsNone(asker.again())

    def test_ahead_of_a_house(self):
        asker = Asker("bob")
        self.assertEqual(asker.ask(DEED), ("ask", "bob", 1, DEED))
        self.assertEqual(asker.read("there", "/"), ("read", "bob", 1, "there", "/", False, NOWHERE))
        self.assertIsNone(asker.at())


class TestReadAndTouch(unittest.TestCase):

    def test_numbers_go_on_by_one(self):
        asker = at_ann()
        for number, (kind, path, watch) in enumerate(
                [("text", "/", True), ("there", "/a", False), ("kids", "/a/b", True), ("text", "/", True)]):
            self.assertEqual(asker.read(kind, path, watch=watch),
                             ("read", "bob", number + 1, kind, path, watch, NOWHERE))
        self.assertEqual(asker.watchers(), [])

    def test_with_the_place_seen(self):
        asker = at_ann()
        asker.ask(DEED)
        asker.hear(answer(1, place=(3, 2)))
        self.assertEqual(asker.read("text", "/"), ("read", "bob", 1, "text", "/", False, (3, 2)))

    def test_without_watch_none_is_laid(self):
        for kind in ("text", "there", "kids"):
            for watch in (False, True):
                asker = at_ann()
                asker.read(kind, "/a", watch=watch)
                self.assertIs(asker.hear(told(1)), True)
                self.assertEqual(asker.watchers(), [(kind, "/a", (1, 1))] * watch)
        asker = watching(("text", "/a", (1, 1)))
        asker.read("text", "/a")
        asker.hear(told(2, place=(1, 4)))
        self.assertEqual(asker.watchers(), [("text", "/a", (1, 1))])

    def test_touch(self):
        asker = watching(("text", "/a", (1, 1)))
        ahead = behaved(asker)
        self.assertEqual(asker.touch(), ("touch", "bob"))
        self.assertEqual(behaved(asker), ahead)


class TestHearAnswer(unittest.TestCase):

    def test_to_the_ask_under_way_alone(self):
        asker = at_ann()
        for stamp in (0, 1, 2):
            self.assertIs(asker.hear(answer(stamp)), False)
        asker.ask(DEED)
        for stamp in (0, 2, -1, 9):
            self.assertIs(asker.hear(answer(stamp)), False)
        self.assertIs(asker.hear(answer(1, value=("ok", "/a-000000"), place=(1, 5))), True)
        self.assertIs(asker.hear(answer(1, value=("ok", "/a-000000"), place=(1, 5))), False)
        self.assertEqual(asker.answers(), [(1, DEED, ("ok", "/a-000000"), (1, 5))])
        asker.ask(("bring",))
        for stamp in (1, 3):
            self.assertIs(asker.hear(answer(stamp)), False)
        self.assertEqual((asker.is_busy(), asker.seen()), (True, (1, 5)))
        self.assertIs(asker.hear(answer(2, value=("no", "closed"), place=(1, 4))), True)
        self.assertEqual(asker.answers()[1:], [(2, ("bring",), ("no", "closed"), (1, 4))])
        self.assertEqual(asker.seen(), (1, 5))

    def test_values_arent_looked_at(self):
        for value in [("ok",), ("no",), ("ok", 1, 2, 3), ("no", "all", 3), ("ok", ("a", None)), ("ok", Stranger()),
                      ("no", 1.5), ("ok", True), ("no", b"a"), ("ok", ("no",))]:
            asker = at_ann()
            asker.ask(DEED)
            self.assertIs(asker.hear(answer(1, value=value)), True)
            self.assertEqual(asker.answers(), [(1, DEED, value, (1, 1))])

    def test_what_is_no_answer_by_its_form(self):
        asker = at_ann()
        asker.ask(DEED)
        ahead = behaved(asker)
        for value in things() + [("Ok", 1), ("yes", 1), ("o", 1), ("okno", 1), ("", 1), (b"ok", 1), ["ok", None], "ok", "no",
                                 (("ok",), 1), ({"ok"}, 1), (["ok"], 1), {"ok": 1}, (0, "ok"), (True, "no")]:
            self.assertIs(asker.hear(answer(1, value=value)), False, repr(value))
        self.assertEqual(behaved(asker), ahead)


class TestHearTold(unittest.TestCase):

    def test_of_the_last_read_once(self):
        asker = at_ann()
        for number in (0, 1):
            self.assertIs(asker.hear(told(number)), False)
        asker.read("text", "/a")
        asker.read("there", "/b")
        ahead = shown(asker)
        for number in (0, 1, 3, -1):
            self.assertIs(asker.hear(told(number)), False)
        self.assertEqual(shown(asker), ahead)
        self.assertIs(asker.hear(told(2, value=True, place=(1, 7))), True)
        for number in (1, 2, 3):
            self.assertIs(asker.hear(told(number, place=(1, 8))), False)
        self.assertEqual(asker.reads(), [(2, "there", "/b", True, (1, 7))])
        self.assertEqual(asker.seen(), (1, 7))

    def test_a_lesser_place_is_taken_and_the_greatest_stays_seen(self):
        asker = at_ann()
        for number, (place, seen) in enumerate([((1, 3), (1, 3)), ((2, 1), (2, 1)), ((1, 9), (2, 1)), (NOWHERE, (2, 1)),
                                                ((2, 2), (2, 2))]):
            asker.read("text", "/a")
            self.assertIs(asker.hear(told(number + 1, place=place)), True)
            self.assertEqual(asker.seen(), seen)

    def test_a_watcher_is_laid_in_the_stead_of_a_like_one(self):
        asker = watching(("text", "/a", (1, 1)), ("kids", "/a", (1, 1)), ("text", "/b", (1, 1)))
        asker.read("text", "/a", watch=True)
        self.assertEqual(len(asker.watchers()), 3)
        asker.hear(told(4, place=(1, 3)))
        self.assertEqual(asker.watchers(), [("kids", "/a", (1, 1)), ("text", "/a", (1, 3)), ("text", "/b", (1, 1))])

    def test_of_text_and_kids_with_none_none_is_laid(self):
        for kind in ("text", "there", "kids"):
            for value in (None, False, (), ("", 0), 0, ""):
                lays = kind == "there" or value is not None
                asker = at_ann()
                asker.read(kind, "/a", watch=True)
                self.assertIs(asker.hear(told(1, value=value, place=(1, 2))), True)
                self.assertEqual(asker.watchers(), [(kind, "/a", (1, 2))] * lays)
                self.assertEqual((asker.reads(), asker.seen()), ([(1, kind, "/a", value, (1, 2))], (1, 2)))
                asker = watching((kind, "/a", (1, 1)))
                asker.read(kind, "/a", watch=True)
                self.assertIs(asker.hear(told(2, value=value, place=(1, 2))), True)
                self.assertEqual(asker.watchers(), [(kind, "/a", (1, 2) if lays else (1, 1))])

    def test_values_arent_looked_at(self):
        for value in things() + UNHASHABLE:
            for kind in ("text", "there", "kids"):
                asker = at_ann()
                asker.read(kind, "/a", watch=True)
                self.assertIs(asker.hear(told(1, value=value)), True)
                self.assertEqual(len(asker.reads()), 1)


class TestHearEvent(unittest.TestCase):

    def test_behind_its_place_at_it_and_ahead_of_it(self):
        for place, taken in (((1, 3), False), ((1, 4), False), ((1, 5), True), ((2, 1), True), (NOWHERE, False),
                             ((0, 9), False), ((2, 0), True)):
            for kind in MET_BY:
                asker = watching((kind, "/a", (1, 4)))
                ahead = behaved(asker)
                letter = event(kind, "/a", "gone", place=place)
                self.assertIs(asker.hear(letter), taken)
                if not taken:
                    self.assertEqual(behaved(asker), ahead)
                else:
                    self.assertEqual((asker.watchers(), asker.seen()), ([], place))
                    self.assertEqual(asker.events(), [(kind, "/a", "gone", place)])
                    self.assertIs(asker.hear(letter), False)
                    self.assertEqual(len(asker.events()), 1)

    def test_of_one_that_it_doesnt_have(self):
        for kind, path in (("text", "/b"), ("kids", "/a"), ("there", "/a"), ("text", "/"), ("text", "/a/b")):
            asker = watching(("text", "/a", (1, 1)))
            self.assertIs(asker.hear(event(kind, path, "gone")), False)
            self.assertEqual(asker.watchers(), [("text", "/a", (1, 1))])
        self.assertIs(Asker("bob").hear(event("text", "/a", "text")), False)

    def test_each_kind_by_each_word(self):
        for kind, words in MET_BY.items():
            for word in ("made", "text", "gone", "kids"):
                asker = watching((kind, "/a", (1, 1)))
                self.assertIs(asker.hear(event(kind, "/a", word)), word in words)

    def test_others_stay_and_a_lesser_place_leaves_what_was_seen(self):
        asker = watching(("text", "/a", (1, 1)), ("kids", "/a", (1, 5)), ("text", "/b", (1, 6)))
        self.assertIs(asker.hear(event("text", "/a", "text", place=(1, 3))), True)
        self.assertEqual(asker.watchers(), [("kids", "/a", (1, 5)), ("text", "/b", (1, 6))])
        self.assertEqual(asker.seen(), (1, 6))

    def test_laid_again_it_is_told_again(self):
        asker = watching(("text", "/a", (1, 1)))
        asker.hear(event("text", "/a", "text", place=(1, 2)))
        asker.read("text", "/a", watch=True)
        asker.hear(told(2, place=(1, 3)))
        self.assertIs(asker.hear(event("text", "/a", "text", place=(1, 2))), False)
        self.assertIs(asker.hear(event("text", "/a", "gone", place=(1, 4))), True)
        self.assertEqual(asker.events(), [("text", "/a", "text", (1, 2)), ("text", "/a", "gone", (1, 4))])


class TestHearNothing(unittest.TestCase):

    def ready(self):
        """bob with an ask, a read and a watcher, so that each letter may be taken."""
        asker = watching(("text", "/a", (1, 1)))
        asker.ask(DEED)
        asker.read("kids", "/", watch=True)
        return asker

    GOOD = [(answer(1), ("other", "other", "one", "other", "other")),
            (told(2), ("other", "other", "other", "any", "other")),
            (event("text", "/a", "gone"), ("other",) * 6), (("late", "bob"), ("other",) * 2)]

    def check(self, *letters):
        asker = self.ready()
        ahead = behaved(asker)
        for letter in letters:
            self.assertIs(asker.hear(letter), False, repr(letter))
        self.assertEqual(behaved(asker), ahead)

    def test_good_ones(self):
        for letter, _ in self.GOOD:
            ahead = copy.deepcopy(letter)
            self.assertIs(self.ready().hear(letter), True)
            self.assertEqual(letter, ahead)

    def test_late(self):
        for asker in (Asker("bob"), self.ready()):
            ahead = behaved(asker)
            for _ in range(2):
                self.assertIs(asker.hear(("late", "bob")), True)
            self.assertEqual(behaved(asker), ahead)

    def test_of_anything(self):
        self.check(*things(), *UNHASHABLE)
        self.check("late", ("late",), ["late", "bob"], ("late", "bob", (1, 1)), ("late", "bob", None), ("late", "amy"),
                   ("Late", "bob"), ("ask", "bob", 1, DEED), ("touch", "bob"), ("again", "bob", (), NOWHERE),
                   ("read", "bob", 1, "text", "/a", False, NOWHERE), ("end", "bob"), ("answer", "bob"), ("told", "bob"),
                   ("event", "bob"), ("answer", "bob", (1, 1)), ("told", "bob", (1, 1)), ("event", "bob", (1, 1)))

    def test_to_another_asker(self):
        for letter, _ in self.GOOD:
            for word in ["amy", "bo", "bobb", "ann", "Bob"] + NO_WORDS + things() + UNHASHABLE:
                self.check(letter[:1] + (word,) + letter[2:])

    def test_one_thing_put_otherwise(self):
        for letter, kinds in self.GOOD:
            if letter[0] != "told":
                self.check(*spoilt(letter, kinds))
        letter = told(2)
        self.check(list(letter), letter + (None,), letter + ((1, 1),), letter[:-1], letter[1:], letter + letter, (letter,))
        for k in (0, 1, 2, 4):
            for thing in things() + UNHASHABLE:
                self.check(letter[:k] + (thing,) + letter[k + 1:])
        for letter, _ in self.GOOD[:3]:
            self.check(letter[:-1] + (None, letter[-1]), letter[:2] + letter[3:])

    def test_lists_dicts_and_sets_at_each_place_and_depth(self):
        for letter, _ in self.GOOD:
            for k in range(len(letter)):
                for thing in UNHASHABLE + [[letter[k]], {"a": letter[k]}, [letter], (letter, [])]:
                    if (letter[0], k) != ("told", 3):
                        self.check(letter[:k] + (thing,) + letter[k + 1:])
        for thing in UNHASHABLE:
            self.check(answer(1, value=(thing, None)), answer(1, place=(1, thing)), answer(1, place=(thing, 1)),
                       told(2, place=(thing, 1)), event("text", "/a", thing), event("text", thing, "gone"),
                       event(thing, "/a", "gone"), event("text", "/a", "gone", place=(1, thing)))

    def test_truths_for_numbers(self):
        self.check(answer(True), answer(1, place=(True, 1)), answer(1, place=(1, True)), told(2, place=(True, True)),
                   event("text", "/a", "gone", place=(2, True)), event("text", "/a", "gone", place=(True, 2)))
        asker = at_ann()
        asker.read("text", "/a")
        self.assertIs(asker.hear(told(True)), False)
        self.assertIs(asker.hear(told(1)), True)

    def test_places(self):
        for place in NO_PLACES:
            self.check(answer(1, place=place), told(2, place=place), event("text", "/a", "gone", place=place))

    def test_kinds_paths_and_words(self):
        for kind in ("", "Text", "made", b"text", ("text",), None, 0):
            self.check(event(kind, "/a", "gone"))
        self.check(*[event("text", path, "gone") for path in NO_PATHS])
        for word in ("", "Gone", "put", "drop", b"gone", None, 0, ("gone",), "textgone", "go"):
            self.check(event("text", "/a", word))


class TestTold(unittest.TestCase):

    def ready(self):
        """bob, who heard of everything, and what he heard."""
        asker = watching(("text", "/a", (1, 1)), ("there", "/b", (1, 2)))
        asker.ask(DEED)
        asker.hear(event("text", "/a", "text", place=(1, 3)))
        asker.hear(answer(1, value=("ok", "/a-000000"), place=(1, 4)))
        asker.read("kids", "/")
        asker.hear(event("there", "/b", "made", place=(1, 5)))
        asker.hear(("late", "bob"))
        asker.hear(told(3, value=("a", "b"), place=(1, 5)))
        asker.ask(("bring",))
        asker.hear(answer(2, value=("no", "closed"), place=(1, 6)))
        return asker

    HEARD = [
        ("told", 1, "text", "/a", ("t", 0), (1, 1)), ("told", 2, "there", "/b", ("t", 0), (1, 2)),
        ("event", "text", "/a", "text", (1, 3)), ("answer", 1, DEED, ("ok", "/a-000000"), (1, 4)),
        ("event", "there", "/b", "made", (1, 5)), ("told", 3, "kids", "/", ("a", "b"), (1, 5)),
        ("answer", 2, ("bring",), ("no", "closed"), (1, 6))]

    def test_in_the_order_heard(self):
        asker = self.ready()
        self.assertEqual(asker.heard(), self.HEARD)
        self.assertEqual(asker.answers(), [thing[1:] for thing in self.HEARD if thing[0] == "answer"])
        self.assertEqual(asker.reads(), [thing[1:] for thing in self.HEARD if thing[0] == "told"])
        self.assertEqual(asker.events(), [thing[1:] for thing in self.HEARD if thing[0] == "event"])
        self.assertEqual((asker.watchers(), asker.seen()), ([], (1, 6)))

    def test_watchers_sorted(self):
        laid = [("there", "/b", (1, 1)), ("text", "/b", (1, 2)), ("kids", "/", (1, 9)), ("text", "/a", (1, 3))]
        for order in (laid, laid[::-1]):
            self.assertEqual(watching(*order).watchers(), sorted(laid))

    def test_what_is_told_is_new(self):
        asker = self.ready()
        asker.read("text", "/c", watch=True)
        asker.hear(told(4))
        ahead = shown(asker)
        for told_list in (asker.heard, asker.answers, asker.reads, asker.events, asker.watchers):
            self.assertIs(type(told_list()), list)
            told_list().clear()
            told_list().append(1)
        self.assertEqual(shown(asker), ahead)
        self.assertEqual(shown(asker), ahead)

    def test_values_with_lists_and_dicts_are_neither_kept_nor_handed_out(self):
        value = [1, {"a": [2]}, ({"b": []},)]
        like = copy.deepcopy(value)
        asker = at_ann()
        asker.read("text", "/a")
        asker.ask(DEED)
        asker.hear(told(1, value=value))
        asker.hear(answer(1, value=("ok", value)))
        other = asker.twin()
        value[1]["a"].append(3)
        value[2][0]["b"].append(4)
        value.append(5)
        for one in (asker, other):
            for _ in range(2):
                self.assertEqual(one.reads()[0][3], like)
                self.assertEqual(one.answers()[0][2], ("ok", like))
                self.assertEqual(one.heard()[0][4], like)
                one.reads()[0][3][1]["a"].append(6)
                one.heard()[0][4].clear()
                one.answers()[0][2][1][2][0]["b"].append(7)

    def test_twin(self):
        asker = self.ready()
        asker.move("bea")
        asker.ask(DEED)
        asker.read("text", "/c", watch=True)
        asker.hear(told(4))
        asker.read("kids", "/c", watch=True)
        ahead = behaved(asker)
        other = asker.twin()
        self.assertIs(type(other), Asker)
        self.assertEqual(behaved(other), ahead)
        self.assertIs(other.hear(told(5)), True)
        other.hear(answer(3))
        other.hear(event("text", "/c", "gone", place=(4, 4)))
        other.read("text", "/")
        other.move("cyd")
        self.assertEqual(behaved(asker), ahead)
        self.assertNotEqual(behaved(other), ahead)
        other = asker.twin()
        asker.hear(told(5))
        asker.move("dot")
        self.assertEqual(behaved(other), ahead)


if __name__ == "__main__":
    unittest.main()
