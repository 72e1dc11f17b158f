"""Of point 11 the forms of letters between houses."""

import copy
import unittest

from tests.helper import by_names, nested, spoilt, things
from tests.test_rows import NO_ROWS, at
from tests.test_states import ENTRIES, no_entries
from tests.woven import ask
from watchednodes.letters import is_letter
from watchednodes.paths import NOWHERE

END = ("end", "bob")
PLACE = (2, 3)
THINGS = (((2, 4), END), ((3, 1), ask(1)))

# What may stand behind the epoch, by the words of which it is right, and the kinds within.
RESTS = [
    (("seek",), (4, PLACE), ("number", "other")),
    (("promise", "synced", "took", "done"), (PLACE,), ("other",)),
    (("lead", "lack"), (), ()),
    (("sync",), ("more", PLACE, THINGS, (1, 1)), ("other", "other", "things", "other")),
    (("propose",), (PLACE, (3, 1), END), ("other", "other", "other")),
    (("forward",), (ask(7),), ("other",)),
    (("touch",), ("bob",), ("other",)),
]
WORDS = [word for words, _, _ in RESTS for word in words]
AHEAD = ("other", "other", "other", "number")
NO_PLACES = [(2,), (), (2, 3, 4), [2, 3], (True, 3), (2, True), (False, 0), (-1, 3), (2, -1), (None, 3), (2, 3.0),
             ("2", "3"), "23", 23, None, {}, ([2], 3), (2, {})]


def a_letter(word, *rest):
    """A letter from ann to bea."""
    return (word, "ann", "bea", 5) + rest


LETTERS = [a_letter(word, *rest) for words, rest, _ in RESTS for word in words]


class TestForms(unittest.TestCase):

    def check(self, right, *letters):
        for letter in letters:
            self.assertIs(is_letter(letter), right, repr(letter))

    def test_right_ones(self):
        self.assertEqual(len(LETTERS), 11)
        for letter in LETTERS:
            ahead = copy.deepcopy(letter)
            self.check(True, letter)
            self.assertEqual(letter, ahead)

    def test_each_rest_by_each_word(self):
        for words, rest, _ in RESTS:
            for word in WORDS:
                self.check(word in words, a_letter(word, *rest))

    def test_one_thing_put_otherwise(self):
        for words, rest, kinds in RESTS:
            for word in words:
                self.check(False, *spoilt(a_letter(word, *rest), AHEAD + kinds))

    def test_things(self):
        self.check(False, *things())
        self.check(False, *WORDS)
        for k in range(8):
            self.check(False, *[("seek", "ann", "bea", 5)[:k] + (thing,) * 2 for thing in things()])

    def test_no_words(self):
        for letter in LETTERS:
            rest = letter[1:]
            for word in ("", "Seek", "seeks", "see", "seek ", "event", "answer", "told", "late", "again", "ask", "read",
                         b"seek", None, ("seek",), ["seek"], {"seek": 1}, {"seek"}):
                self.check(False, (word,) + rest)

    def test_names(self):
        for letter in LETTERS:
            word, _, _, *rest = letter
            self.check(True, (word, "a", "b", *rest), (word, "zzzzzzzz", "z", *rest), (word, "bea", "ann", *rest))
            for name in ("ann", "a", "seek"):
                self.check(False, (word, name, name, *rest))
            for name in ("", "Ann", "ann-000001", "abcdefghi", "/ann", "ann ", None, 1, ("ann",), ["ann"], b"ann", {}):
                self.check(False, (word, name, "bea", *rest), (word, "ann", name, *rest), (word, name, name, *rest))

    def test_epochs(self):
        for letter in LETTERS:
            ahead, rest = letter[:3], letter[4:]
            for epoch in (0, 1, 2, 10 ** 29):
                self.check(True, ahead + (epoch,) + rest)
            for epoch in (-1, True, False, None, 1.0, "1", (1,), [1], (1, 1)):
                self.check(False, ahead + (epoch,) + rest)

    def test_seek(self):
        for epoch in (0, 1, 5, 6, 10 ** 29):
            self.check(True, a_letter("seek", epoch, PLACE), a_letter("seek", epoch, NOWHERE))
        for epoch in (-1, True, False, None, 1.0, "1", (1,), [1]):
            self.check(False, a_letter("seek", epoch, PLACE))
        self.check(False, a_letter("seek", PLACE, 4), a_letter("seek", (4, PLACE)), a_letter("seek", PLACE))

    def test_places(self):
        for place in (NOWHERE, (0, 1), (1, 0), (7, 7), (10 ** 29, 10 ** 29)):
            self.check(True, a_letter("seek", 4, place), *[a_letter(word, place) for word in RESTS[1][0]])
            self.check(True, a_letter("sync", "all", place, (), NOWHERE), a_letter("sync", "cut", NOWHERE, (), place))
        for place in NO_PLACES:
            self.check(False, a_letter("seek", 4, place), *[a_letter(word, place) for word in RESTS[1][0]])
            self.check(False, a_letter("sync", "all", place, (), NOWHERE), a_letter("sync", "cut", NOWHERE, (), place))
            self.check(False, a_letter("sync", "cut", NOWHERE, ((place, END),), NOWHERE))
            self.check(False, a_letter("propose", place, (9, 9), END), a_letter("propose", NOWHERE, place, END))

    def test_lists_in_the_place_of_tuples(self):
        for letter in LETTERS:
            self.check(False, list(letter), list(letter[:4]) + [letter[4:]], letter[:3] + (list(letter[3:]),))
            for k, part in enumerate(letter):
                if isinstance(part, tuple) and part:
                    self.check(False, letter[:k] + (list(part),) + letter[k + 1:])
        for part in (list(THINGS[1]), ([3, 1], END), ((3, 1), list(END))):
            self.check(False, a_letter("sync", "more", PLACE, THINGS[:1] + (part,), (1, 1)))

    def test_not_hashable_at_any_depth(self):
        for letter in LETTERS:
            for k in range(len(letter)):
                for bad in ([], {}, set(), [[]], ([],), (({},),), nested(5), (PLACE, [PLACE]), ("all", [END])):
                    self.check(False, letter[:k] + (bad,) + letter[k + 1:])
        for bad in ([], {}, set(), ([],), nested(7)):
            self.check(False, a_letter("sync", "more", PLACE, (((3, 1), ask(1, deed=bad)),), (1, 1)))
            self.check(False, a_letter("sync", "more", PLACE, (((3, 1), ("end", bad)),), (1, 1)))
            self.check(False, a_letter("sync", "more", PLACE, (((3, bad), END),), (1, 1)))
            self.check(False, a_letter("sync", bad, PLACE, THINGS, (1, 1)))
            self.check(False, a_letter("propose", PLACE, (9, 9), ("ask", "bob", 1, ("all", (bad,)))))
            self.check(False, a_letter("forward", ("ask", "bob", bad, ("bring",))))
            self.check(False, a_letter("forward", ("ask", "bob", 1, ("put", "/", bad, None))))


class TestSync(unittest.TestCase):

    def check(self, right, things_of_it, base=PLACE, way="more"):
        self.assertIs(is_letter(a_letter("sync", way, base, things_of_it, (1, 1))), right, repr(things_of_it))

    def test_ways(self):
        for way in ("more", "cut", "all"):
            for base in (NOWHERE, PLACE, (9, 9)):
                self.check(True, (), base, way)
        for way in ("", "More", "al", "none", "lack", None, True, 0, ("more",), ["more"], {"more"}, b"more"):
            self.check(False, (), PLACE, way)

    def test_rising(self):
        for places in ([(2, 4)], [(2, 9)], [(3, 0)], [(3, 7)], [(2, 4), (2, 5)], [(2, 4), (2, 9)], [(2, 4), (9, 0)],
                       [(5, 5), (5, 6), (7, 2), (7, 3)], [(2, 4), (3, 1), (3, 2), (4, 1)]):
            self.check(True, tuple(at(*places)))
        for places in ([(2, 3)], [(2, 2)], [(1, 9)], [NOWHERE], [(2, 3), (2, 4)], [(2, 4), (2, 4)], [(2, 5), (2, 4)],
                       [(2, 4), (1, 9)], [(3, 1), (2, 9)], [(2, 4), (2, 5), (2, 5)], [(2, 4), (2, 6), (2, 5)],
                       [(2, 4), (3, 1), (2, 8)], [(5, 5), (5, 6), (5, 1), (7, 3)]):
            self.check(False, tuple(at(*places)))

    def test_from_nowhere(self):
        self.check(True, tuple(at((0, 1))), NOWHERE)
        self.check(True, tuple(at((1, 0), (4, 4))), NOWHERE)
        self.check(False, tuple(at(NOWHERE)), NOWHERE)
        self.check(False, tuple(at(NOWHERE, (1, 1))), NOWHERE)

    def test_no_things(self):
        for bad in (None, "", "ab", [], list(THINGS), {}, dict(THINGS), set(THINGS), END, ((3, 1), END), ((3, 1),),
                    (END,), (((3, 1), END, END),), (((3, 1),),), (((3, 1), None),), (END, ((3, 1), END)), (None,),
                    ((),), ((END, (3, 1)),), (THINGS,), iter(THINGS)):
            self.check(False, bad)
        for bad in NO_ROWS:
            if any([not isinstance(thing, tuple) for thing in bad or []]):
                self.check(False, tuple(bad), NOWHERE)

    def test_entries(self):
        for entry in ENTRIES:
            self.check(True, (((3, 1), entry),))
        for entry in no_entries():
            self.check(False, (((3, 1), entry),))
            self.check(False, THINGS + (((9, 1), entry),))


class TestEntries(unittest.TestCase):

    def test_propose(self):
        for entry in ENTRIES:
            self.assertIs(is_letter(a_letter("propose", PLACE, (2, 4), entry)), True)
        for entry in no_entries():
            self.assertIs(is_letter(a_letter("propose", PLACE, (2, 4), entry)), False, repr(entry))

    def test_propose_with_a_first_place_that_isnt_less(self):
        for first, second in (((2, 3), (2, 3)), ((2, 4), (2, 3)), ((3, 0), (2, 9)), (NOWHERE, NOWHERE),
                              ((1, 1), NOWHERE)):
            self.assertIs(is_letter(a_letter("propose", first, second, END)), False)
        for first, second in (((2, 3), (2, 4)), ((2, 3), (2, 9)), ((2, 9), (3, 0)), (NOWHERE, (0, 1)),
                              (NOWHERE, (9, 9))):
            self.assertIs(is_letter(a_letter("propose", first, second, END)), True)

    def test_forward(self):
        for entry in ENTRIES:
            self.assertIs(is_letter(a_letter("forward", entry)), entry[0] == "ask")
        for entry in no_entries():
            self.assertIs(is_letter(a_letter("forward", entry)), False, repr(entry))

    def test_touch(self):
        for word in ("a", "bob", "abcdefgh", "ann", "bea", "seek"):
            self.assertIs(is_letter(a_letter("touch", word)), True)
        for word in ("", "abcdefghi", "Bob", "bob ", "/bob", "bob-000001", None, 1, ("bob",), ["bob"], b"bob"):
            self.assertIs(is_letter(a_letter("touch", word)), False)

    def test_by_name(self):
        for letter in LETTERS:
            self.assertEqual(by_names(is_letter, thing=letter), [True])
            self.assertEqual(by_names(is_letter, thing=letter[1:]), [False])


if __name__ == "__main__":
    unittest.main()
