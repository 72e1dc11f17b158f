"""The refusals."""

import unittest

from tests.helper import Unlike, things
from watchednodes import errors

ABOVE = {
    "NoDeed": ValueError, "NoEntry": ValueError, "NoMembers": ValueError,
    "NoLooks": ValueError, "NoLetter": ValueError, "NoText": ValueError,
    "NoWeaving": ValueError, "NoDeskRow": ValueError,
    "NoHouse": KeyError, "NoAsker": KeyError, "NoNumber": KeyError,
    "NoWorld": LookupError,
    "NotHead": RuntimeError, "Busy": RuntimeError, "Late": RuntimeError,
    "Stopped": RuntimeError,
}
KEPT = {
    "NoText": "where", "NoWeaving": "where", "NoHouse": "thing", "NoAsker": "thing",
    "NoNumber": "thing", "Late": "least", "Stopped": "thing",
}


def made(name):
    """A refusal by its name, of a value where it has one."""
    refusal = getattr(errors, name)
    return refusal("x") if name in KEPT else refusal()


class TestErrors(unittest.TestCase):

    def test_there_are_sixteen(self):
        told = [name for name in dir(errors) if isinstance(getattr(errors, name), type)]
        self.assertEqual(sorted(told), sorted(ABOVE))
        self.assertEqual(len(ABOVE), 16)

    def test_each_stands_right_under_its_class(self):
        for name, above in ABOVE.items():
            with self.subTest(name):
                self.assertEqual(getattr(errors, name).__bases__, (above,))
                with self.assertRaises(above):
                    raise made(name)

    def test_none_stands_under_another_one(self):
        for name in ABOVE:
            for other in ABOVE:
                under = issubclass(getattr(errors, name), getattr(errors, other))
                self.assertEqual(under, name == other, (name, other))

    def test_each_stands_under_no_other_class_that_is_named(self):
        for name, above in ABOVE.items():
            for other in (ValueError, KeyError, RuntimeError):
                under = issubclass(getattr(errors, name), other)
                self.assertEqual(under, other is above, (name, other))
            under = issubclass(getattr(errors, name), LookupError)
            self.assertEqual(under, above in (KeyError, LookupError), name)

    def test_values_are_kept_as_they_are(self):
        for name, word in KEPT.items():
            refusal = getattr(errors, name)
            for value in things() + [Unlike(), "house", [1, [2]], None, True]:
                by_place = refusal(value)
                by_name = refusal(**{word: value})
                self.assertIs(getattr(by_place, word), value, (name, value))
                self.assertIs(getattr(by_name, word), value, (name, value))
                self.assertEqual(str(by_place), str(by_name))

    def test_values_are_kept_when_raised(self):
        value = ["a", None, True]
        for name, word in KEPT.items():
            with self.assertRaises(getattr(errors, name)) as caught:
                raise getattr(errors, name)(value)
            self.assertIs(getattr(caught.exception, word), value)

    def test_values_are_due(self):
        for name in KEPT:
            with self.subTest(name), self.assertRaises(TypeError):
                getattr(errors, name)()

    def test_those_without_values_are_made_of_none(self):
        for name in sorted(set(ABOVE) - set(KEPT)):
            with self.subTest(name):
                self.assertEqual(vars(getattr(errors, name)()), {})


if __name__ == "__main__":
    unittest.main()
