"""Point 9: rows, and what they tell."""

import copy
import unittest

from tests.helper import FITS, by_names, spoilt, things
from tests.test_states import ENTRIES, no_entries
from tests.woven import ask, row_at
from watchednodes.paths import NOWHERE
from watchednodes.rows import (
    behind, is_beginning, is_row, last_place, state_of, told_by, up_to)
from watchednodes.states import done, first_state

END = ("end", "bob")
MANY = row_at((1, 1), (1, 2), (3, 1), (3, 2), (3, 3), (7, 1))
SHORT = row_at((1, 1), (1, 2), (3, 1))


def at(*places):
    """A list of things at these places, whether they make a row or not."""
    return [(place, END) for place in places]


ROWS = [
    [], at((1, 1)), at((2, 1)), at((10 ** 29, 1)), at((1, 1), (1, 2)), at((1, 1), (2, 1)), at((1, 1), (5, 1)),
    at((1, 1), (1, 2), (1, 3), (4, 1), (4, 2), (9, 1)), at((3, 1), (4, 1), (5, 1), (5, 2)), MANY, SHORT]
NO_ROWS = [
    at((1, 0)), at((0, 1)), at((0, 0)), at((0, 1), (0, 2)), at((0, 1), (1, 1)), at((1, 2)), at((2, 2)),
    at((1, 1), (1, 1)), at((1, 1), (1, 3)), at((1, 1), (2, 2)), at((1, 1), (2, 0)), at((1, 0), (1, 1)),
    at((1, 1), (1, 0)), at((1, 1), (0, 1)), at((2, 1), (1, 1)), at((2, 1), (1, 2)), at((2, 1), (2, 2), (1, 1)),
    at((1, 1), (1, 2), (1, 2)), at((1, 1), (1, 2), (1, 1)), at((1, 1), (2, 1), (2, 3)), at((1, 1), (2, 1), (1, 2)),
    at((1, 2), (1, 1)), at((1, 1), (1, 2), (2, 3)), at((True, 1)), at((1, True)), at((1, 1), (True, 2)),
    at((1, 1), (2, True)), at((-1, 1)), at((1, -1)), at((1, 1), (1, 2.0)), at((1, 1.0)), at((1,)), at((1, 1, 1)),
    at([1, 1]), at(None), at("11"), at((1, 1), None), at(()), at(([1], 1)),
    [((1, 1),)], [((1, 1), END, END)], [[(1, 1), END]], [(1, 1)], [END], [()], [None], [[]], [{}],
    [((1, 1), list(END))], [((1, 1), None)], [((1, 1), ())], [(END, (1, 1))], [((1, 1), END), None],
    [None, ((1, 1), END)], [((1, 1), END), ((1, 2), ("bring",))], [((1, 1), ("end", "Bob"))], [{(1, 1): END}],
    tuple(MANY), tuple(at((1, 1))), (), {}, {(1, 1): END}, set(at((1, 1))), dict(MANY), iter([]), None, "", END,
    ((1, 1), END), [[((1, 1), END)]], [tuple(at((1, 1)))]]


class TestIsRow(unittest.TestCase):

    def test_rows(self):
        for thing in ROWS:
            ahead = copy.deepcopy(thing)
            self.assertIs(is_row(thing), True, repr(thing))
            self.assertEqual(thing, ahead)

    def test_no_rows(self):
        for thing in NO_ROWS + [thing for thing in things() if not isinstance(thing, list) or len(thing) > 0]:
            self.assertIs(is_row(thing), False, repr(thing))

    def test_things_of_any_kind_within(self):
        for thing in things():
            for row in ([thing], at((1, 1)) + [thing], [((1, 1), thing)], [(thing, END)],
                        at((1, 1)) + [((1, 2), thing)], at((1, 1), (1, thing)), [(1, 1), thing]):
                self.assertIs(is_row(row), False, repr(row))
            self.assertIs(is_row(at((thing, 1))), FITS["stamp"](thing), repr(thing))
            self.assertIs(is_row(at((1, thing))), FITS["one"](thing), repr(thing))

    def test_every_entry(self):
        for entry in ENTRIES:
            self.assertIs(is_row([((1, 1), entry)]), True, repr(entry))
            self.assertIs(is_row([((1, 1), END), ((1, 2), entry)]), True, repr(entry))
        for entry in no_entries():
            self.assertIs(is_row([((1, 1), entry)]), False, repr(entry))

    def test_a_thing_that_is_spoilt(self):
        for thing in spoilt(((1, 1), END), ("other", "other")) + spoilt((1, 1), ("stamp", "other")):
            self.assertIs(is_row([thing]), False, repr(thing))
            self.assertIs(is_row(at((1, 1)) + [thing]), False, repr(thing))

    def test_where_each_number_may_stand(self):
        for epoch in range(5):
            for number in range(5):
                self.assertIs(is_row(at((epoch, number))), epoch > 0 and number == 1)
                right = (epoch, number) in ((2, 3), (3, 1), (4, 1))
                self.assertIs(is_row(at((1, 1), (2, 1), (2, 2), (epoch, number))), right)


MAKE = ("make", "/a", "x", True, True)
TOLD = [
    ((1, 1), ask(1, deed=("open", 9)), ("ok", None), []),
    ((1, 2), ask(2, deed=MAKE), ("ok", "/a-000000"), [("made", "/a-000000"), ("kids", "/")]),
    ((1, 3), ask(2, deed=MAKE), ("ok", "/a-000000"), []),
    ((2, 1), ask(1, deed=MAKE), None, []),
    ((4, 1), ask(3, deed=("put", "/", "t", 5)), ("no", "count"), []),
    ((4, 2), ask(3, "amy"), ("no", "closed"), []),
    ((4, 3), ask(9, deed=("all", (("put", "/", "t", 0), ("see", "/", None)))), ("ok", (1, 1)), [("text", "/")]),
    ((5, 1), END, None, [("gone", "/a-000000"), ("kids", "/")]),
    ((5, 2), END, None, []),
]
WOVEN = [(place, entry) for place, entry, _, _ in TOLD]


class TestTold(unittest.TestCase):

    def test_told_by(self):
        right = [(place, answer, events) for place, _, answer, events in TOLD]
        for many in range(len(TOLD) + 1):
            row = WOVEN[:many]
            self.assertEqual(told_by(row), right[:many])
            self.assertEqual(row, WOVEN[:many])

    def test_state_of(self):
        self.assertEqual(state_of([]), first_state())
        self.assertEqual(state_of(WOVEN[:7]), (
            {"/": ("t", 1, 1, None), "/a-000000": ("x", 0, 0, "bob")},
            {"bob": (9, 9, ("ok", (1, 1)), (4, 3)), "amy": (None, 3, ("no", "closed"), (4, 2))}))
        state = first_state()
        for k, (place, entry) in enumerate(WOVEN):
            state = done(state, entry, place=place)[0]
            self.assertEqual(state_of(WOVEN[:k + 1]), state)

    def test_kinds(self):
        for row in (WOVEN, MANY):
            self.assertEqual([type(thing) for thing in (state_of(row), told_by(row))], [tuple, list])
            self.assertEqual([type(thing) for thing in state_of(row)], [dict, dict])
            for thing in told_by(row):
                self.assertEqual((type(thing), type(thing[0]), type(thing[2])), (tuple, tuple, list))

    def test_all_that_is_told_is_new(self):
        row = list(WOVEN)
        state, told = state_of(row), told_by(row)
        state[0].clear()
        state[1].clear()
        for _, _, events in told:
            events.append("x")
        told.clear()
        self.assertEqual(row, WOVEN)
        self.assertEqual(state_of(row)[0], {"/": ("t", 1, 1, None)})
        self.assertEqual([events for _, _, events in told_by(row)], [events for _, _, _, events in TOLD])

    def test_of_no_things_all_is_new_too(self):
        state = state_of([])
        state[0]["/x"] = 1
        state[1]["x"] = 1
        told_by([]).append(1)
        self.assertEqual((state_of([]), told_by([])), (({"/": ("", 0, 0, None)}, {}), []))


class TestBeginnings(unittest.TestCase):

    def test_is_beginning(self):
        for k in range(len(MANY) + 1):
            for n in range(len(MANY) + 1):
                self.assertIs(is_beginning(MANY[:k], MANY[:n]), k <= n)

    def test_other_things(self):
        other = list(MANY)
        other[2] = (other[2][0], END)
        later = list(MANY)
        later[5] = ((8, 1), later[5][1])
        for k in range(len(MANY) + 1):
            for n in range(len(MANY) + 1):
                self.assertIs(is_beginning(MANY[:k], other[:n]), k <= n and k <= 2)
                self.assertIs(is_beginning(other[:k], MANY[:n]), k <= n and k <= 2)
                self.assertIs(is_beginning(MANY[:k], later[:n]), k <= n and k <= 5)
        self.assertIs(is_beginning(MANY[1:], MANY), False)

    def test_they_stay(self):
        one, other = list(SHORT), list(MANY)
        self.assertIs(is_beginning(one, other), True)
        self.assertEqual((one, other), (SHORT, MANY))


class TestParts(unittest.TestCase):

    def test_up_to_and_behind(self):
        for place, many in ((NOWHERE, 0), ((0, 9), 0), ((1, 0), 0), ((1, 1), 1), ((1, 2), 2), ((1, 3), 2), ((2, 0), 2),
                            ((2, 7), 2), ((3, 0), 2), ((3, 1), 3), ((3, 2), 4), ((3, 3), 5), ((3, 9), 5), ((6, 1), 5),
                            ((7, 0), 5), ((7, 1), 6), ((7, 2), 6), ((8, 0), 6), ((10 ** 29, 0), 6)):
            row = list(MANY)
            self.assertEqual(up_to(row, place), MANY[:many], place)
            self.assertEqual(behind(row, place), MANY[many:], place)
            self.assertEqual(row, MANY)

    def test_of_one_and_of_none(self):
        for place in (NOWHERE, (1, 1), (5, 5)):
            self.assertEqual((up_to([], place), behind([], place)), ([], []))
        one = at((2, 1))
        for place, many in ((NOWHERE, 0), ((2, 0), 0), ((1, 9), 0), ((2, 1), 1), ((2, 2), 1)):
            self.assertEqual((up_to(one, place), behind(one, place)), (one[:many], one[many:]))

    def test_the_lists_are_new(self):
        row = list(MANY)
        for part in (up_to(row, (9, 9)), behind(row, NOWHERE), up_to(row, NOWHERE), behind(row, (9, 9))):
            self.assertIsNot(part, row)
            self.assertIs(type(part), list)
            part.append("x")
        self.assertEqual(row, MANY)
        self.assertEqual((up_to(row, NOWHERE), behind(row, (9, 9))), ([], []))

    def test_last_place(self):
        self.assertEqual(last_place([]), NOWHERE)
        for k, (place, _) in enumerate(MANY):
            self.assertEqual(last_place(MANY[:k + 1]), place)
        self.assertEqual(MANY, row_at((1, 1), (1, 2), (3, 1), (3, 2), (3, 3), (7, 1)))


class TestNames(unittest.TestCase):

    def test_by_names(self):
        self.assertEqual(by_names(is_row, thing=MANY), [True])
        self.assertEqual(by_names(state_of, row=MANY), [state_of(MANY)])
        self.assertEqual(by_names(told_by, row=MANY), [told_by(MANY)])
        self.assertEqual(by_names(last_place, row=MANY), [(7, 1)])
        self.assertEqual(by_names(is_beginning, one=SHORT, other=MANY), [True, True])
        self.assertEqual(by_names(is_beginning, one=MANY, other=SHORT), [False, False])
        self.assertEqual(by_names(up_to, row=MANY, place=(3, 1)), [SHORT, SHORT])
        self.assertEqual(by_names(behind, row=MANY, place=(3, 1)), [MANY[3:], MANY[3:]])


if __name__ == "__main__":
    unittest.main()
