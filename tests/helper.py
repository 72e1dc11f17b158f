"""What several tests share: things of any kind, and a call by place and by name."""

from itertools import permutations


class Stranger:
    """An object of a class that the program doesn't know."""


class Unlike(Stranger):
    """An object that may be neither compared nor hashed."""

    __hash__ = None

    def __eq__(self, other):
        raise AssertionError("compared")


def things():
    """Things of any kind, none of them of a kind that the program takes."""
    return [
        None, True, False, 0, 1, -1, 7, 10 ** 29, 1.5, float("nan"), 2j,
        "", " ", "\n", "-", "no such thing", "\u00e4", b"", b"ab", b"/", bytearray(b"ab"),
        (), ((),), (None,), (None, None), (True, False), ([],), ({},), ([], [], []),
        [], [[]], ["a"], [1, 2], {}, {"a": 1}, {1: {}}, set(), {1}, frozenset(),
        range(3), len, int, str, Stranger, Stranger(), Unlike(), iter([]),
        (Unlike(), Unlike()), (Unlike(), "bob"), (1, 1, 1), ((1, 1), (1, 1)),
        tuple([[{"a": [()]}]]), ([([([([[]],)],)],)], {}), nested(12),
    ]


def nested(depth):
    """Tuples within one another, a list in the innermost."""
    thing = []
    for _ in range(depth):
        thing = (thing,)
    return thing


def is_int(thing, least, most):
    """Whether a thing is an int in these bounds, and no truth."""
    return isinstance(thing, int) and thing is not True and thing is not False and least <= thing <= most


FITS = {
    "number": lambda thing: is_int(thing, 0, 10 ** 30),
    "count": lambda thing: thing is None or is_int(thing, 0, 10 ** 30),
    "stamp": lambda thing: is_int(thing, 1, 10 ** 30),
    "one": lambda thing: is_int(thing, 1, 1),
    "limit": lambda thing: is_int(thing, 1, 1000),
    "truth": lambda thing: thing is True or thing is False,
    "text": lambda thing: thing in ("", " ", "-", "no such thing") if isinstance(thing, str) else False,
    "things": lambda thing: isinstance(thing, tuple) and len(thing) == 0,
    "other": lambda thing: False,
}


def spoilt(good, kinds):
    """What a good tuple becomes by a list, things more or less, or one within that doesn't fit.

    kinds are words of FITS, one for each thing in the tuple.
    """
    told = [list(good), set(good), dict.fromkeys(good), good + (None,), good + ("bob",),
            good + (0,), good[:-1], good[1:], good + good, (good,)]
    for k, kind in enumerate(kinds):
        for thing in things():
            if not FITS[kind](thing):
                told.append(good[:k] + (thing,) + good[k + 1:])
    return told


def by_names(function, **named):
    """What a call tells by its names, in each order of these."""
    return [function(**dict(order)) for order in permutations(list(named.items()))]


class Reckoned:
    """Numbers that seem to come by chance, but are reckoned: of like seeds always alike."""

    def __init__(self, seed):
        self.now = seed * 7919 + 12345

    def below(self, many):
        """The next number below so many."""
        self.now = (self.now * 6364136223846793005 + 1442695040888963407) % 2 ** 64
        return (self.now >> 33) % many

    def one_of(self, choices):
        """The next one of a list or tuple."""
        return choices[self.below(len(choices))]
